/- Regions that draw their order, hold calls, and make blocks for results besides ('a, e := f(g(x))' where a's address is taken): the blocks may be made at any time; walked once, in an order that the prover names, in which each block is met where it is first needed. -/
import Derived.Test.YtabhpafmppmigaaSd
namespace Go.Proofs.Ytabhpafmppmigaa.Sf
open Go.RowKit
open Go.Proofs.Ytabhpafmppmigaa.Sd (light light_value By Cl)

/-- An allocation that waits for nothing: its place in the region, the slot that it fills, the cells of the new block, their type. -/
structure Fl where
  idx : Nat
  slot : Nat
  cs : Array Value
  ty : TypeId

/-- The act, with something in the slots of what is still to be met. -/
def fill (F : List Fl) (x : Nat → Value) (a : Act) : Act := F.foldl (fun a f => a.put (some f.slot) (x f.slot)) a
theorem put_comm (a : Act) {d e : Nat} (h : d ≠ e) (u v : Value) : (a.put (some d) u).put (some e) v = (a.put (some e) v).put (some d) u := by
  simp only [Act.put]
  rw [Array.setIfInBounds_comm _ _ h]
theorem put_put (a : Act) (d : Nat) (u v : Value) : (a.put (some d) u).put (some d) v = a.put (some d) v := by
  simp only [Act.put, Array.setIfInBounds_setIfInBounds]
theorem fill_put (x : Nat → Value) (dst : Option Nat) (v : Value) : ∀ (F : List Fl) (a : Act), (∀ f ∈ F, dst ≠ some f.slot) → (fill F x a).put dst v = fill F x (a.put dst v)
  | [], a, _ => rfl
  | f :: r, a, h => by
    have ih := fill_put x dst v r (a.put (some f.slot) (x f.slot)) fun g hg => h g (List.mem_cons_of_mem _ hg)
    show (fill r x (a.put (some f.slot) (x f.slot))).put dst v = fill r x ((a.put dst v).put (some f.slot) (x f.slot))
    rw [ih]
    cases dst with
    | none => rfl
    | some d => rw [put_comm a (fun e => h f (List.mem_cons_self ..) (by rw [e])) (x f.slot) v]
theorem fill_congr {x y : Nat → Value} : ∀ (F : List Fl) (a : Act), (∀ f ∈ F, x f.slot = y f.slot) → fill F x a = fill F y a
  | [], _, _ => rfl
  | f :: r, a, h => by
    show fill r x (a.put (some f.slot) (x f.slot)) = fill r y (a.put (some f.slot) (y f.slot))
    rw [h f (List.mem_cons_self ..), fill_congr r _ fun g hg => h g (List.mem_cons_of_mem _ hg)]
def upd (x : Nat → Value) (s : Nat) (v : Value) (k : Nat) : Value := if k = s then v else x k
theorem fill_set (x : Nat → Value) (s : Nat) (v : Value) : ∀ (F : List Fl) (a : Act), (F.map (·.slot)).Nodup → (∃ f ∈ F, f.slot = s) → (fill F x a).put (some s) v = fill F (upd x s v) a
  | [], a, _, h => by obtain ⟨_, h, _⟩ := h; cases h
  | f :: r, a, hn, h => by
    rw [List.map_cons, List.nodup_cons] at hn
    show (fill r x (a.put (some f.slot) (x f.slot))).put (some s) v = fill r (upd x s v) (a.put (some f.slot) (upd x s v f.slot))
    by_cases e : f.slot = s
    · have hne : ∀ g ∈ r, g.slot ≠ s := fun g hg e' => hn.1 (List.mem_map.2 ⟨g, hg, by rw [e, e']⟩)
      rw [fill_put x (some s) v r _ fun g hg e' => hne g hg (Option.some.inj e').symm, e, put_put]
      rw [show upd x s v s = v by simp [upd]]
      exact fill_congr r _ fun g hg => by simp [upd, hne g hg]
    · obtain ⟨g, hg, hs⟩ := h
      have hg' : g ∈ r := by
        rcases List.mem_cons.1 hg with rfl | k
        · exact absurd hs e
        · exact k
      rw [show upd x s v f.slot = x f.slot by simp [upd, e]]
      exact fill_set x s v r _ hn.2 ⟨g, hg', hs⟩

/-- What has come up: these besides. -/
def marks (L : Array Bool) (d : List Nat) : Array Bool := d.foldl (fun L i => L.setIfInBounds i true) L
theorem marks_get : ∀ (d : List Nat) (L : Array Bool) (k : Nat), (marks L d)[k]? = if k ∈ d then (L[k]?).map (fun _ => true) else L[k]?
  | [], L, k => by simp [marks]
  | i :: r, L, k => by
    show (marks (L.setIfInBounds i true) r)[k]? = _
    rw [marks_get r, Array.getElem?_setIfInBounds]
    by_cases hi : i = k
    · subst hi
      by_cases hl : i < L.size
      · simp [hl]
      · simp [hl]
    · have hk : k ≠ i := fun e => hi e.symm
      simp [hi, hk]
theorem marks_size : ∀ (d : List Nat) (L : Array Bool), (marks L d).size = L.size
  | [], _ => rfl
  | j :: r, L => by show (marks (L.setIfInBounds j true) r).size = _; rw [marks_size r, Array.size_setIfInBounds]
theorem marks_set (L : Array Bool) (d : List Nat) (i : Nat) : (marks L d).setIfInBounds i true = marks (L.setIfInBounds i true) d := by
  refine Array.ext_getElem? fun k => ?_
  rw [Array.getElem?_setIfInBounds, marks_get, marks_get, Array.getElem?_setIfInBounds]
  rw [marks_size]
  by_cases hi : i = k
  · subst hi
    by_cases hl : i < L.size <;> by_cases hd : i ∈ d <;> simp [hl, hd]
  · simp [hi]
/-- Which of them have come up, by a mask. -/
def doneOf (F : List Fl) (m : Nat → Bool) : List Nat := (F.filter fun f => m f.idx).map (·.idx)
theorem mem_done {F : List Fl} {m : Nat → Bool} {k : Nat} : k ∈ doneOf F m ↔ m k = true ∧ ∃ f ∈ F, f.idx = k := by
  unfold doneOf
  rw [List.mem_map]
  constructor
  · rintro ⟨f, hf, rfl⟩
    rw [List.mem_filter] at hf
    exact ⟨hf.2, f, hf.1, rfl⟩
  · rintro ⟨hm, f, hf, rfl⟩
    exact ⟨f, List.mem_filter.2 ⟨hf, hm⟩, rfl⟩
def on (m : Nat → Bool) (j k : Nat) : Bool := k == j || m k
theorem marks_on (L : Array Bool) (F : List Fl) (m : Nat → Bool) (f : Fl) (hf : f ∈ F) : (marks L (doneOf F m)).setIfInBounds f.idx true = marks L (doneOf F (on m f.idx)) := by
  rw [marks_set]
  refine Array.ext_getElem? fun k => ?_
  rw [marks_get, marks_get, Array.getElem?_setIfInBounds]
  by_cases e : f.idx = k
  · subst e
    have h2 : f.idx ∈ doneOf F (on m f.idx) := mem_done.2 ⟨by simp [on], f, hf, rfl⟩
    rw [if_pos h2]
    by_cases hl : f.idx < L.size <;> by_cases hd : f.idx ∈ doneOf F m <;> simp [hl, hd]
  · have hiff : (k ∈ doneOf F (on m f.idx)) ↔ (k ∈ doneOf F m) := by
      have hb : (k == f.idx) = false := by simpa using fun h => e h.symm
      rw [mem_done, mem_done]
      simp [on, hb]
    by_cases hd : k ∈ doneOf F m
    · rw [if_pos hd, if_pos (hiff.2 hd)]; simp [e]
    · rw [if_neg hd, if_neg (fun h => hd (hiff.1 h))]; simp [e]
/-- All masks. -/
def allMasks : List Fl → (List Nat → Bool) → Bool
  | [], k => k []
  | f :: r, k => allMasks r k && allMasks r (fun d => k (f.idx :: d))
theorem allMasks_spec : ∀ (F : List Fl) (k : List Nat → Bool), allMasks F k = true → ∀ m, k (doneOf F m) = true
  | [], k, h, m => h
  | f :: r, k, h, m => by
    unfold allMasks at h
    rw [Bool.and_eq_true] at h
    unfold doneOf
    rw [List.filter_cons]
    cases hm : m f.idx with
    | true => rw [if_pos rfl]; exact allMasks_spec r _ h.2 m
    | false => rw [if_neg (by simp)]; exact allMasks_spec r _ h.1 m

/-- May the region be walked so? -/
def good (ops : Array Oper) : List (Nat × Nat) → List Fl → Array Bool → Bool
  | [], F, L => F.isEmpty && (Region.ready .any ops L).isEmpty
  | (0, i) :: r, F, L =>
    (match ops[i]? with
     | some o => light o.op && F.all (fun f => o.dst != some f.slot) && allMasks F (fun d => Region.free .any ops (marks L d) i && (Region.ready .any ops (marks L d)).contains i)
     | none => false) && good ops r F (L.setIfInBounds i true)
  | (1, i) :: r, F, L =>
    (match ops[i]? with
     | some o => F.all (fun f => o.dst != some f.slot) && allMasks F (fun d => !(Region.ready .any ops (marks L d)).isEmpty && (Region.ready .any ops (marks L d)).all fun j => j == i || F.any fun f => f.idx == j && !d.contains j)
     | none => false) && good ops r F (L.setIfInBounds i true)
  | (_, i) :: r, f :: F, L =>
    (ops[i]?).isSome && allMasks (f :: F) (fun d => d.contains f.idx || (!(Region.ready .any ops (marks L d)).isEmpty && (Region.ready .any ops (marks L d)).all fun j => (f :: F).any fun g => g.idx == j && !d.contains j)) && good ops r F (L.setIfInBounds f.idx true)
  | (_, _) :: _, [], _ => false

/-- The walk. (0: a light operation, at once; 1: a call or another that writes, alone; 2: the next block is met.) -/
def wpSf (P : Program) (ops : Array Oper) (C : World → Prop) (Q : Exit → Act → World → Prop) (n0 : Nat) : List (Nat × Oper) → List Fl → List (Nat × Nat) → List Nat → Act → World → Prop
  | [], _, _, _, a, w => ∀ w', Below w.heap.size w w' → C w' → Q .normal a w'
  | (0, o) :: r, F, H, L, a, w => ∀ x, wpQuiet P ops C (fun a' => wpSf P ops C Q n0 r F H L a' w) [o] (fill F x a)
  | (1, o) :: r, F, H, L, a, w => ∀ x w', Below w.heap.size w w' → C w' → Region.wanted o (yielded ops (fill F x a).tmps) = true ∧
      o.wp P (fill F x a) w' (fun a'' w'' => C w'' ∧ w'.heap.size ≤ w''.heap.size ∧ (F ≠ [] → Below w'.heap.size w' w'') ∧ wpSf P ops C Q n0 r F ((w'.heap.size, w''.heap.size) :: H) L a'' w'') Q
  | (_, _) :: r, F, H, L, a, w => match F with
    | [] => False
    | f :: F => ∀ g w', Below w.heap.size w w' → C w' → w'.heap[g]? = some (.cells f.cs f.ty (0, 0)) → n0 ≤ g → (∀ p ∈ H, g < p.1 ∨ p.2 ≤ g) → g ∉ L → wpSf P ops C Q n0 r F H (g :: L) (a.put (some f.slot) (.pointer (some ⟨g, 0, none⟩))) w'

def picks (l : List Oper) : List (Nat × Nat) → List (Nat × Oper)
  | [] => []
  | (k, i) :: r => match l[i]? with
    | some o => (k, o) :: picks l r
    | none => picks l r

/-- What is known of the blocks that are still to be met. -/
structure Inv (F : List Fl) (m : Nat → Bool) (x : Nat → Value) (a : Act) (n0 : Nat) (H : List (Nat × Nat)) (L : List Nat) (w : World) : Prop where
  old : ∀ f ∈ F, m f.idx = false → x f.slot = a.tmps.getD f.slot undef
  new : ∀ f ∈ F, m f.idx = true → ∃ g, x f.slot = .pointer (some ⟨g, 0, none⟩) ∧ w.heap[g]? = some (.cells f.cs f.ty (0, 0)) ∧ n0 ≤ g ∧ (∀ p ∈ H, g < p.1 ∨ p.2 ≤ g) ∧ g ∉ L
  apart : ∀ f ∈ F, ∀ f' ∈ F, f.slot ≠ f'.slot → m f.idx = true → m f'.idx = true → x f.slot ≠ x f'.slot
  past : ∀ p ∈ H, p.2 ≤ w.heap.size
  met : ∀ g ∈ L, g < w.heap.size

theorem getD_put (a : Act) (dst : Option Nat) (v : Value) (s : Nat) (h : dst ≠ some s) : (a.put dst v).tmps.getD s undef = a.tmps.getD s undef := by
  cases dst with
  | none => rfl
  | some d =>
    have hd : d ≠ s := fun e => h (by rw [e])
    simp only [Act.put, Array.getD_eq_getD_getElem?, Array.getElem?_setIfInBounds, if_neg hd]
theorem fill_idem (x : Nat → Value) : ∀ (F : List Fl) (a : Act), fill F x (fill F x a) = fill F x a
  | [], _ => rfl
  | f :: r, a => by
    show fill r x ((fill r x (a.put (some f.slot) (x f.slot))).put (some f.slot) (x f.slot)) = fill r x (a.put (some f.slot) (x f.slot))
    have e : ∀ (r : List Fl) (b : Act), (fill r x (b.put (some f.slot) (x f.slot))).put (some f.slot) (x f.slot) = fill r x (b.put (some f.slot) (x f.slot)) := by
      intro r
      induction r with
      | nil => intro b; exact put_put b _ _ _
      | cons g r ih =>
        intro b
        show (fill r x ((b.put (some f.slot) (x f.slot)).put (some g.slot) (x g.slot))).put (some f.slot) (x f.slot) = fill r x ((b.put (some f.slot) (x f.slot)).put (some g.slot) (x g.slot))
        by_cases h : f.slot = g.slot
        · rw [← h, put_put]; exact ih b
        · rw [put_comm b h, ih]
    rw [e]
    exact fill_idem x r _
/-- An act with other deferred calls. -/
def withD (a : Act) (ds : List Deferred) : Act := { a with defers := ds }
theorem fill_D (x : Nat → Value) (ds : List Deferred) : ∀ (F : List Fl) (a : Act), withD (fill F x a) ds = fill F x (withD a ds)
  | [], _ => rfl
  | f :: r, a => by
    show withD (fill r x (a.put (some f.slot) (x f.slot))) ds = fill r x ((withD a ds).put (some f.slot) (x f.slot))
    rw [fill_D x ds r]
    rfl
theorem getD_fill (x : Nat → Value) (s : Nat) : ∀ (F : List Fl) (a : Act), (∀ f ∈ F, f.slot = s → x s = a.tmps.getD s undef) → (fill F x a).tmps.getD s undef = a.tmps.getD s undef
  | [], _, _ => rfl
  | f :: r, a, h => by
    have e : (a.put (some f.slot) (x f.slot)).tmps.getD s undef = a.tmps.getD s undef := by
      by_cases hs : f.slot = s
      · subst hs
        have := h f (List.mem_cons_self ..) rfl
        simp only [Act.put, Array.getD_eq_getD_getElem?, Array.getElem?_setIfInBounds] at *
        by_cases hl : f.slot < a.tmps.size
        · simp [hl] at *; exact this
        · simp [hl]
      · exact getD_put a _ _ s (fun k => hs (Option.some.inj k))
    show (fill r x (a.put (some f.slot) (x f.slot))).tmps.getD s undef = _
    rw [getD_fill x s r _ fun g hg k => by rw [e]; exact h g (List.mem_cons_of_mem _ hg) k, e]
/-- What follows an operation follows it at the act in which its slot is filled. -/
theorem wp_put {P : Program} {o : Oper} {a : Act} {w : World} {K : Act → World → Prop} {Q : Exit → Act → World → Prop} (h : o.wp P a w K Q) : o.wp P a w (fun a' w' => (∃ ds v, a' = (withD a ds).put o.dst v) ∧ K a' w') Q := by
  unfold Oper.wp at *
  cases hr : (execOp a.eval o).run P w with
  | halt y w1 => rw [hr] at h; cases y <;> exact h
  | ok nx w1 =>
    rw [hr] at h
    cases nx with
    | value v => exact ⟨⟨a.defers, v, rfl⟩, h⟩
    | skip => exact ⟨⟨a.defers, undef, rfl⟩, h⟩
    | defer d => exact ⟨⟨d :: a.defers, undef, rfl⟩, h⟩
    | enter f args =>
      refine Calls.mono h fun e w'' k => ?_
      cases e with
      | returned v => exact ⟨⟨a.defers, v, rfl⟩, k⟩
      | panicked c => exact k
      | outgrown => exact k
    | row r args => exact Rows.mono h fun v w'' k => ⟨⟨a.defers, v, rfl⟩, k⟩
    | _ => exact h

/-- How many are still to come up. -/
def left : List Fl → (Nat → Bool) → Nat
  | [], _ => 0
  | f :: r, m => left r m + (if m f.idx then 0 else 1)
theorem on_le (m : Nat → Bool) (j k : Nat) : (if on m j k then 0 else 1) ≤ (if m k then 0 else 1) := by
  unfold on
  cases (k == j) <;> cases m k <;> simp
theorem left_mono (m : Nat → Bool) (j : Nat) : ∀ r : List Fl, left r (on m j) ≤ left r m
  | [] => Nat.le_refl _
  | g :: r => Nat.add_le_add (left_mono m j r) (on_le m j g.idx)
theorem left_on : ∀ (F : List Fl) (m : Nat → Bool) (f : Fl), f ∈ F → m f.idx = false → left F (on m f.idx) + 1 ≤ left F m
  | g :: r, m, f, hf, hm => by
    have a := left_mono m f.idx r
    have b := on_le m f.idx g.idx
    unfold left
    rcases List.mem_cons.1 hf with e | k
    · subst e
      have : on m f.idx f.idx = true := by simp [on]
      rw [this, hm]
      simp
      exact a
    · have ih := left_on r m f k hm
      omega
theorem nodup_same : ∀ {F : List Fl}, (F.map (·.slot)).Nodup → ∀ f ∈ F, ∀ g ∈ F, g.slot = f.slot → g = f
  | [], _, f, hf, _, _, _ => by cases hf
  | b :: r, hn, f, hf, g, hg, e => by
    rw [List.map_cons, List.nodup_cons] at hn
    rcases List.mem_cons.1 hg with h1 | hg'
    · rcases List.mem_cons.1 hf with h2 | hf'
      · rw [h1, h2]
      · exact absurd (List.mem_map.2 ⟨f, hf', by rw [← e, h1]⟩) hn.1
    · rcases List.mem_cons.1 hf with h2 | hf'
      · exact absurd (List.mem_map.2 ⟨g, hg', by rw [e, h2]⟩) hn.1
      · exact nodup_same hn.2 f hf' g hg' e

section
variable {P : Program} {l : List Oper} {C : World → Prop} {Q : Exit → Act → World → Prop} {n0 : Nat}
/-- What the prover says of each of the allocations. -/
def FlOk (P : Program) (l : List Oper) (f : Fl) : Prop := ∃ o, l.toArray[f.idx]? = some o ∧ o.dst = some f.slot ∧ o.guard = none ∧ ∀ ρ w, (execOp ρ o).run P w = .ok (.value (.pointer (some ⟨w.heap.size, 0, none⟩))) (w.alloc (.cells f.cs f.ty))

/-- One of them comes up. -/
theorem Inv.step {F : List Fl} {m : Nat → Bool} {x : Nat → Value} {a : Act} {H : List (Nat × Nat)} {L : List Nat} {w : World} (h : Inv F m x a n0 H L w) (hn : (F.map (·.slot)).Nodup) (hi : ∀ f ∈ F, ∀ f' ∈ F, f.idx = f'.idx → f.slot = f'.slot) (h0 : n0 ≤ w.heap.size) (f : Fl) (hf : f ∈ F) (hm : m f.idx = false) :
    Inv F (on m f.idx) (upd x f.slot (.pointer (some ⟨w.heap.size, 0, none⟩))) a n0 H L (w.alloc (.cells f.cs f.ty)) := by
  have same : ∀ g ∈ F, g.slot = f.slot → g = f := nodup_same hn f hf
  have on_ : ∀ g ∈ F, g.slot ≠ f.slot → on m f.idx g.idx = m g.idx := fun g hg hne => by
    have hb : (g.idx == f.idx) = false := by simpa using fun e => hne (hi g hg f hf e)
    simp [on, hb]
  have onf : on m f.idx f.idx = true := by simp [on]
  refine ⟨fun g hg hmg => ?_, fun g hg hmg => ?_, fun g hg g' hg' hne hmg hmg' => ?_, fun p hp => ?_, fun g hg => ?_⟩
  · by_cases e : g.slot = f.slot
    · rw [same g hg e, onf] at hmg; cases hmg
    · rw [on_ g hg e] at hmg
      simp only [upd, if_neg e]
      exact h.old g hg hmg
  · by_cases e : g.slot = f.slot
    · obtain rfl := same g hg e
      exact ⟨w.heap.size, by simp [upd], heap_alloc_new w _, h0, fun p hp => .inr (h.past p hp), fun hl => by have := h.met _ hl; omega⟩
    · rw [on_ g hg e] at hmg
      obtain ⟨b, h1, h2, h3⟩ := h.new g hg hmg
      exact ⟨b, by simp only [upd, if_neg e]; exact h1, (Below.heap_alloc w _ b (lt_of_block h2)).trans h2, h3⟩
  · by_cases e : g.slot = f.slot
    · have e' : g'.slot ≠ f.slot := fun k => hne (e.trans k.symm)
      rw [on_ g' hg' e'] at hmg'
      obtain ⟨b, h1, h2, _⟩ := h.new g' hg' hmg'
      have := lt_of_block h2
      simp only [upd, if_pos e, if_neg e', h1]
      simp <;> omega
    · by_cases e' : g'.slot = f.slot
      · rw [on_ g hg e] at hmg
        obtain ⟨b, h1, h2, _⟩ := h.new g hg hmg
        have := lt_of_block h2
        simp only [upd, if_neg e, if_pos e', h1]
        simp <;> omega
      · rw [on_ g hg e] at hmg
        rw [on_ g' hg' e'] at hmg'
        simp only [upd, if_neg e, if_neg e']
        exact h.apart g hg g' hg' hne hmg hmg'
  · have := h.past p hp
    simp
    omega
  · have := h.met g hg
    simp
    omega
/-- How many of the schedule's rows are operations. -/
def cnt : List (Nat × Nat) → Nat
  | [] => 0
  | (0, _) :: r => cnt r + 1
  | (1, _) :: r => cnt r + 1
  | (_ + 2, _) :: r => cnt r

/-- What holds of a state that the walk has come to. -/
def Holds (P : Program) (l : List Oper) (C : World → Prop) (Q : Exit → Act → World → Prop) (n0 : Nat) (n : Nat) : Prop :=
  ∀ (sc : List (Nat × Nat)) (F : List Fl) (H : List (Nat × Nat)) (L : List Nat) (listed : Array Bool) (fuel : Nat) (a : Act) (w : World) (m : Nat → Bool) (x : Nat → Value) (w' : World),
    2 * fuel + sc.length ≤ n → good l.toArray sc F listed = true → (∀ f ∈ F, FlOk P l f) → (F.map (·.slot)).Nodup → (∀ f ∈ F, ∀ f' ∈ F, f.idx = f'.idx → f.slot = f'.slot) → Inv F m x a n0 H L w' → Below w.heap.size w w' → C w' →
    cnt sc + left F m ≤ fuel → wpSf P l.toArray C Q n0 (picks l sc) F H L a w → wpAnyH P .any l.toArray Q C fuel (marks listed (doneOf F m)) (fill F x a) w'

theorem wanted_none {o : Oper} {y : Nat → Option Bool} (h : o.guard = none) : Region.wanted o y = true := by simp [Region.wanted, h]
/-- One of the allocations is carried out. -/
theorem float {n : Nat} (ih : Holds P l C Q n0 n) (hC : ∀ w, C w → n0 ≤ w.heap.size) (hA : ∀ w o, C w → C (w.alloc o)) {sc : List (Nat × Nat)} {F : List Fl} {H : List (Nat × Nat)} {L : List Nat} {listed : Array Bool} {fuel : Nat} {a : Act} {w : World} {m : Nat → Bool} {x : Nat → Value} {w' : World}
    (hn : 2 * (fuel + 1) + sc.length ≤ n + 1) (hg : good l.toArray sc F listed = true) (hF : ∀ f ∈ F, FlOk P l f) (hs : (F.map (·.slot)).Nodup) (hi : ∀ f ∈ F, ∀ f' ∈ F, f.idx = f'.idx → f.slot = f'.slot) (hI : Inv F m x a n0 H L w') (hb : Below w.heap.size w w') (hc : C w')
    (hf : cnt sc + left F m ≤ fuel + 1) (h : wpSf P l.toArray C Q n0 (picks l sc) F H L a w) (f : Fl) (hff : f ∈ F) (hm : m f.idx = false) :
    wpOp P l.toArray Q f.idx (fun a' w' => C w' ∧ wpAnyH P .any l.toArray Q C fuel ((marks listed (doneOf F m)).setIfInBounds f.idx true) a' w') (fill F x a) w' := by
  obtain ⟨o, ho, hd, hgd, hrun⟩ := hF f hff
  unfold wpOp
  simp only [ho, wanted_none hgd, if_true]
  refine .inl ?_
  unfold Oper.wp
  rw [hrun]
  rw [Oper.upon_value, hd, fill_set x f.slot _ F a hs ⟨f, hff, rfl⟩, marks_on listed F m f hff]
  have lo := left_on F m f hff hm
  exact ⟨hA _ _ hc, ih sc F H L listed fuel a w _ _ _ (by omega) hg hF hs hi (hI.step hs hi (hC _ hc) f hff hm) (hb.trans ((Below.refl _ _).alloc hb.size _)) (hA _ _ hc) (by omega) h⟩

theorem holds (hsel : Region.noSelect l.toArray = true) (hQ : ∀ c d v a w, Q (.panic c) (Act.put a d v) w → Q (.panic c) a w) (hC : ∀ w, C w → n0 ≤ w.heap.size) (hA : ∀ w o, C w → C (w.alloc o)) : ∀ n, Holds P l C Q n0 n := by
  intro n
  induction n with
  | zero =>
    intro sc F H L listed fuel a w m x w' hn hg hF hs hi hI hb hc hf h
    have e : sc = [] := List.length_eq_zero_iff.1 (by omega)
    subst e
    unfold good at hg
    simp only [Bool.and_eq_true, List.isEmpty_iff] at hg
    obtain ⟨rfl, hr⟩ := hg
    exact wpAnyH_done hr (h w' hb hc) fuel
  | succ n ih =>
    intro sc F H L listed fuel a w m x w' hn hg hF hs hi hI hb hc hf h
    match sc, hg, h, hn, hf with
    | [], hg, h, _, _ =>
      unfold good at hg
      simp only [Bool.and_eq_true, List.isEmpty_iff] at hg
      obtain ⟨rfl, hr⟩ := hg
      exact wpAnyH_done hr (h w' hb hc) fuel
    | (0, i) :: r, hg, h, hn, hf =>
      have hg' : (_ && good l.toArray r F (listed.setIfInBounds i true)) = true := hg
      rw [Bool.and_eq_true] at hg'
      obtain ⟨hg1, hg2⟩ := hg'
      cases ho : l[i]? with
      | none => simp [ho] at hg1
      | some o =>
        have hop : l.toArray[i]? = some o := by simp [ho]
        rw [hop] at hg1
        simp only [Bool.and_eq_true, List.all_eq_true] at hg1
        obtain ⟨⟨hl, hds⟩, hm⟩ := hg1
        have hds' : ∀ f ∈ F, o.dst ≠ some f.slot := fun f hf => by simpa using hds f hf
        have hm' := allMasks_spec F _ hm m
        simp only [Bool.and_eq_true] at hm'
        rw [picks, ho] at h
        obtain ⟨fuel, rfl⟩ : ∃ k, fuel = k + 1 := ⟨fuel - 1, by simp only [cnt] at hf; omega⟩
        have q := h x
        unfold wpQuiet at q
        have next : ∀ v', wpSf P l.toArray C Q n0 (picks l r) F H L ((fill F x a).put o.dst v') w → wpAnyH P .any l.toArray Q C fuel ((marks listed (doneOf F m)).setIfInBounds i true) ((fill F x a).put o.dst v') w' := fun v' hnx => by
          have k := ih r F H L (listed.setIfInBounds i true) fuel ((fill F x a).put o.dst v') w m x w' (by simp at hn; omega) hg2 hF hs hi ⟨fun f hff hmf => ?_, hI.new, hI.apart, hI.past, hI.met⟩ hb hc (by simp only [cnt] at hf; omega) hnx
          · rw [fill_put x o.dst v' F a hds', fill_idem, ← marks_set] at k
            rw [fill_put x o.dst v' F a hds']
            exact k
          · rw [getD_put _ o.dst v' f.slot (hds' f hff), getD_fill x f.slot F a fun g hg e => by rw [← e]; obtain rfl := nodup_same hs f hff g hg e; exact hI.old g hg hmf]
            exact hI.old f hff hmf
        by_cases hw : Region.wanted o (yielded l.toArray (fill F x a).tmps) = true
        · rw [if_pos hw] at q
          obtain ⟨v', hv', e⟩ := q
          refine wpAnyH_take (v := v') hop hsel hm'.1 hm'.2 (fun c a w => hQ c _ _ a w) (.inl ⟨hw, fun w2 hw2 => ?_⟩) hc (next v' e)
          have q2 := hv' w2 hw2
          unfold Oper.quietAt at q2
          cases e2 : (execOp (fill F x a).eval o).run P w2 with
          | halt y w1 => rw [e2] at q2; cases q2
          | ok nx w1 =>
            obtain ⟨u, rfl⟩ := light_value hl e2
            rw [e2] at q2
            obtain ⟨e3, e4⟩ := q2
            rw [e3, e4]
        · rw [if_neg hw] at q
          exact wpAnyH_take (v := undef) hop hsel hm'.1 hm'.2 (fun c a w => hQ c _ _ a w) (.inr ⟨by simpa using hw, rfl⟩) hc (next undef q)
    | (1, i) :: r, hg, h, hn, hf =>
      have hg0 := hg
      have h0 := h
      have hg' : (_ && good l.toArray r F (listed.setIfInBounds i true)) = true := hg
      rw [Bool.and_eq_true] at hg'
      obtain ⟨hg1, hg2⟩ := hg'
      cases ho : l[i]? with
      | none => simp [ho] at hg1
      | some o =>
        have hop : l.toArray[i]? = some o := by simp [ho]
        rw [hop] at hg1
        simp only [Bool.and_eq_true, List.all_eq_true] at hg1
        obtain ⟨hds, hm⟩ := hg1
        have hds' : ∀ f ∈ F, o.dst ≠ some f.slot := fun f hf => by simpa using hds f hf
        have hm' := allMasks_spec F _ hm m
        simp only [Bool.and_eq_true, List.all_eq_true] at hm'
        rw [picks, ho] at h
        obtain ⟨hw, hwp⟩ := h x w' hb hc
        obtain ⟨fuel, rfl⟩ : ∃ k, fuel = k + 1 := ⟨fuel - 1, by simp only [cnt] at hf; omega⟩
        refine wpAnyH_all rfl (fun e => by rw [e] at hm'; simp at hm') fun j hj => ?_
        have hj' := hm'.2 j hj
        rw [Bool.or_eq_true] at hj'
        rcases hj' with e | hfl
        · obtain rfl : j = i := by simpa using e
          unfold wpOp
          simp only [hop, hw, if_true]
          refine .inl (Oper.wp_mono (fun a'' w'' hh => ?_) (wp_put hwp))
          obtain ⟨⟨ds, v, rfl⟩, c2, hsz, hbel, hT⟩ := hh
          refine ⟨c2, ?_⟩
          have k := ih r F _ L (listed.setIfInBounds j true) fuel ((withD (fill F x a) ds).put o.dst v) w'' m x w'' (by simp at hn; omega) hg2 hF hs hi ⟨fun f hff hmf => ?_, fun f hff hmf => ?_, hI.apart, fun p hp => ?_, fun g hg => Nat.lt_of_lt_of_le (hI.met g hg) hsz⟩ (Below.refl _ _) c2 (by simp only [cnt] at hf; omega) hT
          · rw [fill_D, fill_put x o.dst v F _ hds', fill_idem, ← marks_set] at k
            rw [fill_D, fill_put x o.dst v F _ hds']
            exact k
          · rw [fill_D, getD_put _ o.dst v f.slot (hds' f hff), getD_fill x f.slot F _ fun g hg e => by rw [← e]; obtain rfl := nodup_same hs f hff g hg e; exact hI.old g hg hmf]
            exact hI.old f hff hmf
          · obtain ⟨g, g1, g2, g3, g4, g5⟩ := hI.new f hff hmf
            refine ⟨g, g1, ((hbel (List.ne_nil_of_mem hff)).block g (lt_of_block g2)).trans g2, g3, fun p hp => ?_, g5⟩
            rcases List.mem_cons.1 hp with rfl | hp
            · exact .inl (lt_of_block g2)
            · exact g4 p hp
          · rcases List.mem_cons.1 hp with rfl | hp
            · exact Nat.le_refl _
            · exact Nat.le_trans (hI.past p hp) hsz
        · obtain ⟨f, hff, he⟩ := List.any_eq_true.1 hfl
          rw [Bool.and_eq_true] at he
          obtain rfl : f.idx = j := by simpa using he.1
          have hmf : m f.idx = false := by
            have hd : f.idx ∉ doneOf F m := by simpa using he.2
            rw [mem_done] at hd
            cases hmm : m f.idx with
            | false => rfl
            | true => exact absurd ⟨hmm, f, hff, rfl⟩ hd
          exact float ih hC hA hn hg0 hF hs hi hI hb hc hf h0 f hff hmf
    | (k + 2, i) :: r, hg, h, hn, hf =>
      have hg0 := hg
      have h0 := h
      match F, hg, h, hF, hs, hi, hI, hf, hg0, h0 with
      | [], hg, h, _, _, _, _, _, _, _ => simp [good] at hg
      | f :: F, hg, h, hF, hs, hi, hI, hf, hg0, h0 =>
        have hg' : ((l.toArray[i]?).isSome && allMasks (f :: F) _ && good l.toArray r F (listed.setIfInBounds f.idx true)) = true := hg
        rw [Bool.and_eq_true, Bool.and_eq_true] at hg'
        obtain ⟨⟨hio, hm⟩, hg2⟩ := hg'
        have hm' := allMasks_spec (f :: F) _ hm m
        cases hmm : m f.idx with
        | true =>
          obtain ⟨g, g1, g2, g3, g4, g5⟩ := hI.new f (List.mem_cons_self ..) hmm
          have hp : ∀ {o : Oper}, wpSf P l.toArray C Q n0 ((k + 2, o) :: picks l r) (f :: F) H L a w → wpSf P l.toArray C Q n0 (picks l r) F H (g :: L) (a.put (some f.slot) (.pointer (some ⟨g, 0, none⟩))) w' := fun h => h g w' hb hc g2 g3 g4 g5
          have hT : wpSf P l.toArray C Q n0 (picks l r) F H (g :: L) (a.put (some f.slot) (.pointer (some ⟨g, 0, none⟩))) w' := by
            cases ho : l[i]? with
            | none => simp [ho] at hio
            | some o =>
              rw [picks, ho] at h
              exact hp h
          have hd : doneOf (f :: F) m = f.idx :: doneOf F m := by unfold doneOf; rw [List.filter_cons, if_pos hmm]; rfl
          rw [hd]
          show wpAnyH P .any l.toArray Q C fuel (marks (listed.setIfInBounds f.idx true) (doneOf F m)) (fill F x (a.put (some f.slot) (x f.slot))) w'
          rw [g1]
          rw [List.map_cons, List.nodup_cons] at hs
          have hne : ∀ f' ∈ F, f.slot ≠ f'.slot := fun f' h' e => hs.1 (List.mem_map.2 ⟨f', h', e.symm⟩)
          refine ih r F H (g :: L) _ fuel _ w' m x w' (by simp at hn; omega) hg2 (fun f' h' => hF f' (List.mem_cons_of_mem _ h')) hs.2 (fun a ha b hb => hi a (List.mem_cons_of_mem _ ha) b (List.mem_cons_of_mem _ hb)) ⟨fun f' h' hmf => ?_, fun f' h' hmf => ?_, fun f' h' f'' h'' => hI.apart f' (List.mem_cons_of_mem _ h') f'' (List.mem_cons_of_mem _ h''), hI.past, fun b hb => ?_⟩ (Below.refl _ _) hc ?_ hT
          · rw [getD_put a _ _ f'.slot (fun e => hne f' h' (Option.some.inj e))]
            exact hI.old f' (List.mem_cons_of_mem _ h') hmf
          · obtain ⟨b, b1, b2, b3, b4, b5⟩ := hI.new f' (List.mem_cons_of_mem _ h') hmf
            refine ⟨b, b1, b2, b3, b4, fun hl => ?_⟩
            rcases List.mem_cons.1 hl with e | hl
            · exact hI.apart f' (List.mem_cons_of_mem _ h') f (List.mem_cons_self ..) (fun e => hne f' h' e.symm) hmf hmm (by rw [b1, g1, e])
            · exact b5 hl
          · rcases List.mem_cons.1 hb with rfl | hb
            · exact lt_of_block g2
            · exact hI.met b hb
          · simp only [cnt, left, hmm] at hf
            simpa using hf
        | false =>
          have hd : (doneOf (f :: F) m).contains f.idx = false := by
            have : f.idx ∉ doneOf (f :: F) m := fun h => by rw [mem_done, hmm] at h; simp at h
            simpa using this
          rw [hd, Bool.false_or] at hm'
          simp only [Bool.and_eq_true, List.all_eq_true] at hm'
          have lf := left_on (f :: F) m f (List.mem_cons_self ..) hmm
          obtain ⟨fuel, rfl⟩ : ∃ k, fuel = k + 1 := ⟨fuel - 1, by omega⟩
          refine wpAnyH_all rfl (fun e => by rw [e] at hm'; simp at hm') fun j hj => ?_
          obtain ⟨f', hff, he⟩ := List.any_eq_true.1 (hm'.2 j hj)
          rw [Bool.and_eq_true] at he
          obtain rfl : f'.idx = j := by simpa using he.1
          have hmf : m f'.idx = false := by
            have hd : f'.idx ∉ doneOf (f :: F) m := by simpa using he.2
            rw [mem_done] at hd
            cases hmm : m f'.idx with
            | false => rfl
            | true => exact absurd ⟨hmm, f', hff, rfl⟩ hd
          exact float ih hC hA hn hg0 hF hs hi hI hb hc hf h0 f' hff hmf
theorem fill_self (a : Act) : ∀ F : List Fl, fill F (fun s => a.tmps.getD s undef) a = a
  | [] => rfl
  | f :: r => by
    have e : a.put (some f.slot) (a.tmps.getD f.slot undef) = a := by
      simp only [Act.put]
      have : a.tmps.setIfInBounds f.slot (a.tmps.getD f.slot undef) = a.tmps := by
        refine Array.ext_getElem? fun k => ?_
        rw [Array.getElem?_setIfInBounds]
        by_cases hk : f.slot = k
        · subst hk
          by_cases hl : f.slot < a.tmps.size
          · simp [hl]
          · simp [hl]
        · simp [hk]
      rw [this]
    show fill r (fun s => a.tmps.getD s undef) (a.put (some f.slot) (a.tmps.getD f.slot undef)) = a
    rw [e]
    exact fill_self a r
theorem left_all : ∀ F : List Fl, left F (fun _ => false) = F.length
  | [] => rfl
  | f :: r => by show left r _ + 1 = r.length + 1; rw [left_all r]

theorem start {id : Nat} {l : List Oper} {Q : Exit → Act → World → Prop} {a : Act} {w : World} (sc : List (Nat × Nat)) (F : List Fl) (hm : P.follows .mixedOrders = true) (hs : Region.noSelect l.toArray = true)
    (hg : good l.toArray sc F (Array.replicate l.toArray.size false) = true) (hc : cnt sc + F.length ≤ l.toArray.size) (hn : (F.map (·.slot)).Nodup) (hi : ∀ f ∈ F, ∀ f' ∈ F, f.idx = f'.idx → f.slot = f'.slot) (hF : ∀ f ∈ F, FlOk P l f)
    (h : wpSf P l.toArray (fun w' => ∃ p : By w, w' = p.world) (NoPanic Q) w.heap.size (picks l sc) F [] [] a w.drew) : (Code.region id l.toArray true).wp P Q a w :=
  wp_region_noPanic (wp_region_held_drew (S := Cl w) hm (Cl.of (Below.refl _ _).drew) fun _ => by
    have hd : doneOf F (fun _ => false) = [] := by unfold doneOf; simp
    have k := holds (P := P) (l := l) (C := Cl w) (Q := NoPanic Q) (n0 := w.heap.size) hs (fun _ _ _ _ _ h => h) (fun w' h => h.bel.size) (fun w' o h => Cl.of (h.bel.alloc h.bel.size o)) (2 * l.toArray.size + sc.length) sc F [] [] (Array.replicate l.toArray.size false) l.toArray.size a w.drew (fun _ => false) (fun s => a.tmps.getD s undef) w.drew
      (Nat.le_refl _) hg hF hn hi ⟨fun _ _ _ => rfl, fun _ _ h => (by cases h), fun _ _ _ _ _ h => (by cases h), fun _ hp => (by cases hp), fun _ hg => (by cases hg)⟩ (Below.refl _ _) (Cl.of (Below.refl _ _).drew) (by rw [left_all]; exact hc) h
    rw [hd, fill_self] at k
    exact k)

section
variable {ops : Array Oper} {a : Act} {w : World} {o : Oper} {r : List (Nat × Oper)} {F : List Fl} {H : List (Nat × Nat)} {L : List Nat}
theorem lit (h : ∀ x, wpQuiet P ops C (fun a' => wpSf P ops C Q n0 r F H L a' w) [o] (fill F x a)) : wpSf P ops C Q n0 ((0, o) :: r) F H L a w := h
/-- A call, or another operation that writes. -/
theorem call (h : ∀ x w', Below w.heap.size w w' → C w' → Region.wanted o (yielded ops (fill F x a).tmps) = true ∧
      ∀ K : Act → World → Prop, (∀ a'' w'', C w'' → w'.heap.size ≤ w''.heap.size → (F ≠ [] → Below w'.heap.size w' w'') → wpSf P ops C Q n0 r F ((w'.heap.size, w''.heap.size) :: H) L a'' w'' → K a'' w'') → o.wp P (fill F x a) w' K Q) :
    wpSf P ops C Q n0 ((1, o) :: r) F H L a w := fun x w' hb hc => ⟨(h x w' hb hc).1, (h x w' hb hc).2 _ fun _ _ c s b k => ⟨c, s, b, k⟩⟩
/-- The next block is met. -/
theorem meet {f : Fl} (h : ∀ g w', Below w.heap.size w w' → C w' → w'.heap[g]? = some (.cells f.cs f.ty (0, 0)) → n0 ≤ g → (∀ p ∈ H, g < p.1 ∨ p.2 ≤ g) → g ∉ L → wpSf P ops C Q n0 r F H (g :: L) (a.put (some f.slot) (.pointer (some ⟨g, 0, none⟩))) w') :
    wpSf P ops C Q n0 ((2, o) :: r) (f :: F) H L a w := h
theorem done {Q : Exit → Act → World → Prop} (h : ∀ w', Below w.heap.size w w' → C w' → Q .normal a w') : wpSf P ops C (NoPanic Q) n0 [] F H L a w := h
end
end

end Go.Proofs.Ytabhpafmppmigaa.Sf
