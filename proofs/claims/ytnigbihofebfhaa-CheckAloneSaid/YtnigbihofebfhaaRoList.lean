/- Lists of entries: which may be tables, what a file's table is, what a table's file is. -/
import Derived.Test.YtnigbihofebfhaaRoMem
namespace Go.Proofs.Ytnigbihofebfhaa.Ro
open Go.RowKit
open Go.Proofs.Ytnigbihofebfhaa.Rw (Rd Ow At)
open Go.Proofs.Ytnigbihofebfhaa.Fl (R4 z4 rec4 K4 okR okL hdr rat goodF)

/-- The entry at a place, and the slot ahead of it. -/
def eat (l : List E5) (i : Nat) : E5 := l.getD i z5
def prevS (l : List E5) (i : Nat) : Int := if i = 0 then 0 else (eat l (i - 1)).2.1
def okAt (l : List E5) (i : Nat) : Prop := okE (eat l i) ∧ prevS l i < (eat l i).2.1
instance (l : List E5) (i : Nat) : Decidable (okAt l i) := by unfold okAt; infer_instance
/-- Entries may be a table. -/
def mayP (l : List E5) : Prop := ∀ i, i < l.length → okAt l i
instance (l : List E5) : Decidable (mayP l) := by unfold mayP; infer_instance
def mayB (l : List E5) : Bool := decide (mayP l)
theorem prev_zero (l : List E5) : prevS l 0 = 0 := rfl
theorem prev_next (l : List E5) (k : Nat) : prevS l (k + 1) = (eat l k).2.1 := rfl
theorem prev_ge {l : List E5} {n : Nat} (h : ∀ i, i < n → okAt l i) (k : Nat) (hk : k ≤ n) : (k : Int) ≤ prevS l k := by
  induction k with
  | zero => exact Int.le_refl _
  | succ k ih =>
    have h1 := ih (by omega)
    have h2 := (h k (by omega)).2
    rw [prev_next]
    omega
theorem may_len {l : List E5} (h : mayP l) : l.length ≤ 16 := by
  have h1 := prev_ge h l.length (Nat.le_refl _)
  rcases e : l.length with _ | n
  · omega
  · rw [e, prev_next] at h1
    have := (okE_bounds (h n (by omega)).1).2.1.2
    omega
/-- What the entry's kind says of it, where all that lie ahead of it may. -/
theorem okAt_iff {l : List E5} {k : Nat} (h : ∀ i, i < k → okAt l i) : okAt l k ↔ okE (eat l k) ∧ (eat l k).1 ≠ 4 ∧ ¬ (0 < k ∧ (eat l k).2.1 ≤ prevS l k) := by
  have h1 := prev_ge h k (Nat.le_refl _)
  constructor
  · intro g
    exact ⟨g.1, (ok_slot g.1).2 (by have := g.2; omega), by have := g.2; omega⟩
  · intro ⟨g1, g2, g3⟩
    refine ⟨g1, ?_⟩
    have := (ok_slot g1).1 g2
    by_cases e : k = 0
    · subst e; rw [prev_zero]; exact this
    · omega
theorem eat_get {l : List E5} {i : Nat} (h : i < l.length) : l[i]? = some (eat l i) := by
  unfold eat
  rw [List.getD_eq_getElem?_getD, List.getElem?_eq_getElem h]
  rfl
theorem eat_mem {l : List E5} {i : Nat} (h : i < l.length) : eat l i ∈ l := List.mem_of_getElem? (eat_get h)

/-- The entries of records, up to the first end; none, if one of them is no entry's. -/
def scan : List R4 → Option (List E5)
  | [] => some []
  | v :: r => if okE (takeX v) then (if (takeX v).1 = 4 then some [] else (scan r).map (takeX v :: ·)) else none
def tabO (p : Int) (l : List R4) : Option (List E5) := if goodF p l then (scan (l.drop 1)).filter mayB else none
def tabL (p : Int) (l : List R4) : List E5 := (tabO p l).getD []
def tabN (p : Int) (l : List R4) : Int := if (tabO p l).isSome then 0 else 2
theorem tab_may (p : Int) (l : List R4) : mayP (tabL p l) := by
  unfold tabL
  rcases e : tabO p l with _ | m
  · intro i hi; exact absurd hi (by simp)
  · unfold tabO at e
    by_cases h : goodF p l
    · rw [if_pos h] at e
      rw [Option.filter_eq_some_iff] at e
      exact of_decide_eq_true e.2
    · rw [if_neg h] at e; cases e
theorem tab_none {p : Int} {l : List R4} (h : tabN p l ≠ 0) : tabL p l = [] := by
  unfold tabN at h
  unfold tabL
  rcases e : tabO p l with _ | m
  · rfl
  · rw [e] at h; exact absurd rfl h
theorem tab_bad {p : Int} {l : List R4} (h : ¬ goodF p l) : tabL p l = [] ∧ tabN p l = 2 := by
  have e : tabO p l = none := by unfold tabO; rw [if_neg h]
  unfold tabL tabN
  rw [e]
  exact ⟨rfl, rfl⟩
theorem tab_stop {p : Int} {l : List R4} (h : scan (l.drop 1) = none) : tabL p l = [] ∧ tabN p l = 2 := by
  have e : tabO p l = none := by unfold tabO; rw [h]; split <;> rfl
  unfold tabL tabN
  rw [e]
  exact ⟨rfl, rfl⟩
theorem tab_yes {p : Int} {l : List R4} {m : List E5} (hg : goodF p l) (h : scan (l.drop 1) = some m) (hm : mayP m) : tabL p l = m ∧ tabN p l = 0 := by
  have e : tabO p l = some m := by unfold tabO; rw [if_pos hg, h, Option.filter_eq_some_iff]; exact ⟨rfl, decide_eq_true hm⟩
  unfold tabL tabN
  rw [e]
  exact ⟨rfl, rfl⟩
theorem tab_no {p : Int} {l : List R4} {m : List E5} (h : scan (l.drop 1) = some m) (hm : ¬ mayP m) : tabL p l = [] ∧ tabN p l = 2 := by
  have e : tabO p l = none := by
    unfold tabO
    split
    · rw [h]
      show (some m).filter mayB = none
      simp only [Option.filter, mayB, decide_eq_false hm, Bool.false_eq_true, if_false]
    · rfl
  unfold tabL tabN
  rw [e]
  exact ⟨rfl, rfl⟩

/-- The scan's state: what has been read, of all. -/
def Read (r : List R4) (k : Nat) (L : List E5) : Prop := L.length = k ∧ scan r = (scan (r.drop k)).map (L ++ ·)
theorem read_start (r : List R4) : Read r 0 [] := ⟨rfl, by simp⟩
theorem drop_cons {r : List R4} {k : Nat} (h : k < r.length) : r.drop k = rat r k :: r.drop (k + 1) := by
  rw [List.drop_eq_getElem_cons h]
  congr 1
  unfold rat
  rw [List.getD_eq_getElem?_getD, List.getElem?_eq_getElem h]
  rfl
theorem read_bad {r : List R4} {k : Nat} {L : List E5} (h : Read r k L) (hk : k < r.length) (hb : ¬ okE (takeX (rat r k))) : scan r = none := by
  rw [h.2, drop_cons hk]
  simp only [scan, if_neg hb, Option.map_none]
theorem read_end {r : List R4} {k : Nat} {L : List E5} (h : Read r k L) (hk : k < r.length) (hb : okE (takeX (rat r k))) (h4 : (takeX (rat r k)).1 = 4) : scan r = some L := by
  rw [h.2, drop_cons hk]
  simp only [scan, if_pos hb, if_pos h4, Option.map_some, List.append_nil]
theorem read_next {r : List R4} {k : Nat} {L : List E5} (h : Read r k L) (hk : k < r.length) (hb : okE (takeX (rat r k))) (h4 : (takeX (rat r k)).1 ≠ 4) : Read r (k + 1) (L ++ [takeX (rat r k)]) := by
  refine ⟨by rw [List.length_append, h.1]; rfl, ?_⟩
  rw [h.2, drop_cons hk]
  simp only [scan, if_pos hb, if_neg h4, Option.map_map]
  congr 1
  funext m
  simp
theorem read_all {r : List R4} {L : List E5} (h : Read r r.length L) : scan r = some L := by
  rw [h.2, List.drop_length]
  simp [scan]

/-- What File answers. -/
def fileL (l : List E5) : List R4 := hdr 3 ((l.length : Int) + 1) :: (l.map putR ++ [endR])
def fL (l : List E5) : List R4 := if mayP l then fileL l else []
def fP (l : List E5) : Int := if mayP l then 3 else 0
def fN (l : List E5) : Int := if mayP l then 0 else 1
theorem scan_file {l : List E5} (h : ∀ x ∈ l, okE x ∧ x.1 ≠ 4) : scan (l.map putR ++ [endR]) = some l := by
  induction l with
  | nil => decide
  | cons x r ih =>
    have hx := h x (List.mem_cons_self ..)
    have hr := ih fun y hy => h y (List.mem_cons_of_mem _ hy)
    show scan (putR x :: (r.map putR ++ [endR])) = _
    simp only [scan, take_put hx.1, if_pos hx.1, if_neg hx.2, hr, Option.map_some]
theorem may_each {l : List E5} (h : mayP l) : ∀ x ∈ l, okE x ∧ x.1 ≠ 4 := fun x hx => by
  obtain ⟨i, hi, e⟩ := List.getElem_of_mem hx
  have g := (okAt_iff (fun j hj => h j (by omega))).1 (h i hi)
  have e' : eat l i = x := by
    have := eat_get hi
    rw [List.getElem?_eq_getElem hi, e] at this
    exact (Option.some.inj this).symm
  rw [e'] at g
  exact ⟨g.1, g.2.1⟩
theorem file_good {l : List E5} (h : mayP l) : goodF 3 (fileL l) := by
  have hl : (fileL l).length = l.length + 2 := by simp [fileL]
  have := may_len h
  refine ⟨by omega, by omega, by omega, by omega, ?_⟩
  have e : ((fileL l).length : Int) - 1 = (l.length : Int) + 1 := by omega
  rw [e]
  rfl
theorem tab_file {l : List E5} (h : mayP l) : tabL 3 (fileL l) = l ∧ tabN 3 (fileL l) = 0 := tab_yes (file_good h) (scan_file (may_each h)) h
theorem ok_file {l : List E5} : okL (fL l) := by
  unfold fL
  by_cases h : mayP l
  · rw [if_pos h]
    intro r hr
    rcases List.mem_cons.1 hr with rfl | hr
    · have := may_len h
      have hb : ∀ n : Fin 18, okR (hdr 3 (n.val : Int)) := by unfold okR; decide +kernel
      have e := hb ⟨l.length + 1, by omega⟩
      simpa using e
    · rcases List.mem_append.1 hr with hr | hr
      · obtain ⟨x, _, rfl⟩ := List.mem_map.1 hr
        exact putR_ok x
      · simp at hr; subst hr; exact ⟨⟨by decide, by decide⟩, ⟨by decide, by decide⟩, ⟨by decide, by decide⟩, by decide, by decide⟩
  · rw [if_neg h]; intro r hr; cases hr
/-- A file half written. -/
def part (h : R4) (l : List E5) (k : Nat) : List R4 := h :: ((l.take k).map putR ++ List.replicate (l.length + 1 - k) z4)
theorem part_len (h : R4) (l : List E5) (k : Nat) (hk : k ≤ l.length) : (part h l k).length = l.length + 2 := by
  simp [part, List.length_take]
  omega
theorem part_start (h : R4) (l : List E5) : part h l 0 = h :: List.replicate (l.length + 1) z4 := by simp [part]
theorem take_next {l : List E5} {k : Nat} (hk : k < l.length) : l.take (k + 1) = l.take k ++ [eat l k] := by
  rw [List.take_add_one, eat_get hk]
  rfl
theorem part_set (h : R4) {l : List E5} {k : Nat} (hk : k < l.length) : (part h l k).set (1 + k) (putR (eat l k)) = part h l (k + 1) := by
  have e1 : (l.take k).length = k := by rw [List.length_take]; omega
  unfold part
  rw [Nat.add_comm 1 k, List.set_cons_succ, List.set_append_right _ _ (by rw [List.length_map, e1]; omega), List.length_map, e1, Nat.sub_self, take_next hk]
  rw [show l.length + 1 - k = (l.length + 1 - (k + 1)) + 1 by omega, List.replicate_succ]
  simp
theorem part_end (h : R4) (l : List E5) : (part h l l.length).set (1 + l.length) endR = h :: (l.map putR ++ [endR]) := by
  unfold part
  rw [Nat.add_comm 1, List.set_cons_succ, List.set_append_right _ _ (by simp), List.take_length]
  have e : l.length + 1 - l.length = 1 := by omega
  rw [e]
  simp
theorem own_next {l : List E5} {k : Nat} (h : R4) (hk : k < l.length) : (h :: (l.take k).map putR) ++ [putR (eat l k)] = h :: (l.take (k + 1)).map putR := by
  rw [take_next hk]
  simp
theorem ent_same {l l' : List E5} (hl : l.length = l'.length) (h : ∀ i, i < l.length → eat l i = eat l' i) : l = l' := by
  refine List.ext_getElem hl fun i h1 h2 => ?_
  have := h i h1
  simpa [eat, List.getD, List.getElem?_eq_getElem h1, List.getElem?_eq_getElem h2] using this

end Go.Proofs.Ytnigbihofebfhaa.Ro
