/- Texts joined: Sg, PaBmem, PaBuild, PaSent, UaSmall, UaPut, UaTake, UaTurn. -/
import Derived.Test.YtilacdjekdngkaaGreatDoorMg1
import Derived.Great.BuildSlice
import Derived.Test.YtilacdjekdngkaaGreatDoorMg8
import Derived.Test.YtilacdjekdngkaaGreatDoorMg5
import Derived.Test.YtilacdjekdngkaaGreatDoorMg7
import Derived.Test.YtilacdjekdngkaaGreatDoorMg2
import Derived.Deep.Cut

/- As XSf, for appends of one element each to several lists: the slices of one element are made at any time once their element is known; what the calls write may be older than the region, in places that the prover's class of worlds allows. A first phase takes the light operations. -/
namespace Go.Proofs.YtilacdjekdngkaaGreatDoor.Sg
open Go.RowKit
open Go.Proofs.YtilacdjekdngkaaGreatDoor.Sd (light light_value)
open Go.Proofs.YtilacdjekdngkaaGreatDoor.Sc (In Cl)

/-- An allocation that waits for nothing: its place in the region, the slot that it fills, the cells of the new block, their type. -/
structure Fl where
  idx : Nat
  slot : Nat
  src : Nat
  val : Value
  ty : TypeId
def Fl.cs (f : Fl) : Array Value := #[f.val]
/-- The slice of one element. -/
def sl1 (g : Nat) : Value := .slice (some ⟨g, 0, none⟩) 1 1
theorem sl1_inj {g h : Nat} : sl1 g = sl1 h ↔ g = h := ⟨fun e => by unfold sl1 at e; injection e with e; injection e with e; injection e, fun e => by rw [e]⟩

/-- The act, with something in the slots of what is still to be met. -/
def fill (F : List Fl) (x : Nat → Value) (a : Act) : Act := F.foldl (fun a f => a.put (some f.slot) (x f.slot)) a
theorem put_comm (a : Act) {d e : Nat} (h : d ≠ e) (u v : Value) : (a.put (some d) u).put (some e) v = (a.put (some e) v).put (some d) u := by
  simp only [Act.put]
  rw [Array.setIfInBounds_comm _ _ h]
theorem put_put (a : Act) (d : Nat) (u v : Value) : (a.put (some d) u).put (some d) v = a.put (some d) v := by
  simp only [Act.put, Array.setIfInBounds_setIfInBounds]
theorem fill_put (x : Nat → Value) (dst : Option Nat) (v : Value) : ∀ (F : List Fl) (a : Act), (∀ f ∈ F, dst ≠ some f.slot) → (fill F x a).put dst v = fill F x (a.put dst v)
  | [], a, _ => rfl
  | f :: r, a, h => by
    have ih := fill_put x dst v r (a.put (some f.slot) (x f.slot)) fun g hg => h g (List.mem_cons_of_mem _ hg)
    show (fill r x (a.put (some f.slot) (x f.slot))).put dst v = fill r x ((a.put dst v).put (some f.slot) (x f.slot))
    rw [ih]
    cases dst with
    | none => rfl
    | some d => rw [put_comm a (fun e => h f (List.mem_cons_self ..) (by rw [e])) (x f.slot) v]
theorem fill_congr {x y : Nat → Value} : ∀ (F : List Fl) (a : Act), (∀ f ∈ F, x f.slot = y f.slot) → fill F x a = fill F y a
  | [], _, _ => rfl
  | f :: r, a, h => by
    show fill r x (a.put (some f.slot) (x f.slot)) = fill r y (a.put (some f.slot) (y f.slot))
    rw [h f (List.mem_cons_self ..), fill_congr r _ fun g hg => h g (List.mem_cons_of_mem _ hg)]
def upd (x : Nat → Value) (s : Nat) (v : Value) (k : Nat) : Value := if k = s then v else x k
theorem fill_set (x : Nat → Value) (s : Nat) (v : Value) : ∀ (F : List Fl) (a : Act), (F.map (·.slot)).Nodup → (∃ f ∈ F, f.slot = s) → (fill F x a).put (some s) v = fill F (upd x s v) a
  | [], a, _, h => by obtain ⟨_, h, _⟩ := h; cases h
  | f :: r, a, hn, h => by
    rw [List.map_cons, List.nodup_cons] at hn
    show (fill r x (a.put (some f.slot) (x f.slot))).put (some s) v = fill r (upd x s v) (a.put (some f.slot) (upd x s v f.slot))
    by_cases e : f.slot = s
    · have hne : ∀ g ∈ r, g.slot ≠ s := fun g hg e' => hn.1 (List.mem_map.2 ⟨g, hg, by rw [e, e']⟩)
      rw [fill_put x (some s) v r _ fun g hg e' => hne g hg (Option.some.inj e').symm, e, put_put]
      rw [show upd x s v s = v by simp [upd]]
      exact fill_congr r _ fun g hg => by simp [upd, hne g hg]
    · obtain ⟨g, hg, hs⟩ := h
      have hg' : g ∈ r := by
        rcases List.mem_cons.1 hg with rfl | k
        · exact absurd hs e
        · exact k
      rw [show upd x s v f.slot = x f.slot by simp [upd, e]]
      exact fill_set x s v r _ hn.2 ⟨g, hg', hs⟩

/-- What has come up: these besides. -/
def marks (L : Array Bool) (d : List Nat) : Array Bool := d.foldl (fun L i => L.setIfInBounds i true) L
theorem marks_get : ∀ (d : List Nat) (L : Array Bool) (k : Nat), (marks L d)[k]? = if k ∈ d then (L[k]?).map (fun _ => true) else L[k]?
  | [], L, k => by simp [marks]
  | i :: r, L, k => by
    show (marks (L.setIfInBounds i true) r)[k]? = _
    rw [marks_get r, Array.getElem?_setIfInBounds]
    by_cases hi : i = k
    · subst hi
      by_cases hl : i < L.size
      · simp [hl]
      · simp [hl]
    · have hk : k ≠ i := fun e => hi e.symm
      simp [hi, hk]
theorem marks_size : ∀ (d : List Nat) (L : Array Bool), (marks L d).size = L.size
  | [], _ => rfl
  | j :: r, L => by show (marks (L.setIfInBounds j true) r).size = _; rw [marks_size r, Array.size_setIfInBounds]
theorem marks_set (L : Array Bool) (d : List Nat) (i : Nat) : (marks L d).setIfInBounds i true = marks (L.setIfInBounds i true) d := by
  refine Array.ext_getElem? fun k => ?_
  rw [Array.getElem?_setIfInBounds, marks_get, marks_get, Array.getElem?_setIfInBounds]
  rw [marks_size]
  by_cases hi : i = k
  · subst hi
    by_cases hl : i < L.size <;> by_cases hd : i ∈ d <;> simp [hl, hd]
  · simp [hi]
/-- Which of them have come up, by a mask. -/
def doneOf (F : List Fl) (m : Nat → Bool) : List Nat := (F.filter fun f => m f.idx).map (·.idx)
theorem mem_done {F : List Fl} {m : Nat → Bool} {k : Nat} : k ∈ doneOf F m ↔ m k = true ∧ ∃ f ∈ F, f.idx = k := by
  unfold doneOf
  rw [List.mem_map]
  constructor
  · rintro ⟨f, hf, rfl⟩
    rw [List.mem_filter] at hf
    exact ⟨hf.2, f, hf.1, rfl⟩
  · rintro ⟨hm, f, hf, rfl⟩
    exact ⟨f, List.mem_filter.2 ⟨hf, hm⟩, rfl⟩
def on (m : Nat → Bool) (j k : Nat) : Bool := k == j || m k
theorem marks_on (L : Array Bool) (F : List Fl) (m : Nat → Bool) (f : Fl) (hf : f ∈ F) : (marks L (doneOf F m)).setIfInBounds f.idx true = marks L (doneOf F (on m f.idx)) := by
  rw [marks_set]
  refine Array.ext_getElem? fun k => ?_
  rw [marks_get, marks_get, Array.getElem?_setIfInBounds]
  by_cases e : f.idx = k
  · subst e
    have h2 : f.idx ∈ doneOf F (on m f.idx) := mem_done.2 ⟨by simp [on], f, hf, rfl⟩
    rw [if_pos h2]
    by_cases hl : f.idx < L.size <;> by_cases hd : f.idx ∈ doneOf F m <;> simp [hl, hd]
  · have hiff : (k ∈ doneOf F (on m f.idx)) ↔ (k ∈ doneOf F m) := by
      have hb : (k == f.idx) = false := by simpa using fun h => e h.symm
      rw [mem_done, mem_done]
      simp [on, hb]
    by_cases hd : k ∈ doneOf F m
    · rw [if_pos hd, if_pos (hiff.2 hd)]; simp [e]
    · rw [if_neg hd, if_neg (fun h => hd (hiff.1 h))]; simp [e]
/-- All masks. -/
def allMasks : List Fl → (List Nat → Bool) → Bool
  | [], k => k []
  | f :: r, k => allMasks r k && allMasks r (fun d => k (f.idx :: d))
theorem allMasks_spec : ∀ (F : List Fl) (k : List Nat → Bool), allMasks F k = true → ∀ m, k (doneOf F m) = true
  | [], k, h, m => h
  | f :: r, k, h, m => by
    unfold allMasks at h
    rw [Bool.and_eq_true] at h
    unfold doneOf
    rw [List.filter_cons]
    cases hm : m f.idx with
    | true => rw [if_pos rfl]; exact allMasks_spec r _ h.2 m
    | false => rw [if_neg (by simp)]; exact allMasks_spec r _ h.1 m

/-- May the region be walked so? -/
def good (ops : Array Oper) : List (Nat × Nat) → List Fl → Array Bool → Bool
  | [], F, L => F.isEmpty && (Region.ready .any ops L).isEmpty
  | (0, i) :: r, F, L =>
    (match ops[i]? with
     | some o => light o.op && F.all (fun f => o.dst != some f.slot && o.dst != some f.src) && allMasks F (fun d => Region.free .any ops (marks L d) i && (Region.ready .any ops (marks L d)).contains i)
     | none => false) && good ops r F (L.setIfInBounds i true)
  | (1, i) :: r, F, L =>
    (match ops[i]? with
     | some o => F.all (fun f => o.dst != some f.slot && o.dst != some f.src) && allMasks F (fun d => !(Region.ready .any ops (marks L d)).isEmpty && (Region.ready .any ops (marks L d)).all fun j => j == i || F.any fun f => f.idx == j && !d.contains j)
     | none => false) && good ops r F (L.setIfInBounds i true)
  | (_, i) :: r, f :: F, L =>
    (ops[i]?).isSome && allMasks (f :: F) (fun d => d.contains f.idx || (!(Region.ready .any ops (marks L d)).isEmpty && (Region.ready .any ops (marks L d)).all fun j => (f :: F).any fun g => g.idx == j && !d.contains j)) && good ops r F (L.setIfInBounds f.idx true)
  | (_, _) :: _, [], _ => false

/-- The walk. (0: a light operation, at once; 1: a call or another that writes, alone; 2: the next block is met.) -/
def wpSg (P : Program) (ops : Array Oper) (C : World → Prop) (Q : Exit → Act → World → Prop) (n0 : Nat) : List (Nat × Oper) → List Fl → List (Nat × Nat) → List Nat → Act → World → Prop
  | [], _, _, _, a, w => ∀ w', Below w.heap.size w w' → C w' → Q .normal a w'
  | (0, o) :: r, F, H, L, a, w => ∀ x, wpQuiet P ops C (fun a' => wpSg P ops C Q n0 r F H L a' w) [o] (fill F x a)
  | (1, o) :: r, F, H, L, a, w => ∀ x w', Below w.heap.size w w' → C w' → Region.wanted o (yielded ops (fill F x a).tmps) = true ∧
      o.wp P (fill F x a) w' (fun a'' w'' => C w'' ∧ w'.heap.size ≤ w''.heap.size ∧ (∀ g, n0 ≤ g → g < w'.heap.size → w''.heap[g]? = w'.heap[g]?) ∧ wpSg P ops C Q n0 r F ((w'.heap.size, w''.heap.size) :: H) L a'' w'') Q
  | (_, _) :: r, F, H, L, a, w => match F with
    | [] => False
    | f :: F => ∀ g w', Below w.heap.size w w' → C w' → w'.heap[g]? = some (.cells f.cs f.ty (0, 0)) → n0 ≤ g → (∀ p ∈ H, g < p.1 ∨ p.2 ≤ g) → g ∉ L → wpSg P ops C Q n0 r F H (g :: L) (a.put (some f.slot) (sl1 g)) w'

def picks (l : List Oper) : List (Nat × Nat) → List (Nat × Oper)
  | [] => []
  | (k, i) :: r => match l[i]? with
    | some o => (k, o) :: picks l r
    | none => picks l r

/-- What is known of the blocks that are still to be met. -/
structure Inv (F : List Fl) (m : Nat → Bool) (x : Nat → Value) (a : Act) (n0 : Nat) (H : List (Nat × Nat)) (L : List Nat) (w : World) : Prop where
  ne : ∀ f ∈ F, ∀ g ∈ F, f.slot ≠ g.src
  src : ∀ f ∈ F, a.tmps.getD f.src undef = f.val
  old : ∀ f ∈ F, m f.idx = false → x f.slot = a.tmps.getD f.slot undef
  new : ∀ f ∈ F, m f.idx = true → ∃ g, x f.slot = sl1 g ∧ w.heap[g]? = some (.cells f.cs f.ty (0, 0)) ∧ n0 ≤ g ∧ (∀ p ∈ H, g < p.1 ∨ p.2 ≤ g) ∧ g ∉ L
  apart : ∀ f ∈ F, ∀ f' ∈ F, f.slot ≠ f'.slot → m f.idx = true → m f'.idx = true → x f.slot ≠ x f'.slot
  past : ∀ p ∈ H, p.2 ≤ w.heap.size
  met : ∀ g ∈ L, g < w.heap.size

theorem getD_put (a : Act) (dst : Option Nat) (v : Value) (s : Nat) (h : dst ≠ some s) : (a.put dst v).tmps.getD s undef = a.tmps.getD s undef := by
  cases dst with
  | none => rfl
  | some d =>
    have hd : d ≠ s := fun e => h (by rw [e])
    simp only [Act.put, Array.getD_eq_getD_getElem?, Array.getElem?_setIfInBounds, if_neg hd]
theorem fill_idem (x : Nat → Value) : ∀ (F : List Fl) (a : Act), fill F x (fill F x a) = fill F x a
  | [], _ => rfl
  | f :: r, a => by
    show fill r x ((fill r x (a.put (some f.slot) (x f.slot))).put (some f.slot) (x f.slot)) = fill r x (a.put (some f.slot) (x f.slot))
    have e : ∀ (r : List Fl) (b : Act), (fill r x (b.put (some f.slot) (x f.slot))).put (some f.slot) (x f.slot) = fill r x (b.put (some f.slot) (x f.slot)) := by
      intro r
      induction r with
      | nil => intro b; exact put_put b _ _ _
      | cons g r ih =>
        intro b
        show (fill r x ((b.put (some f.slot) (x f.slot)).put (some g.slot) (x g.slot))).put (some f.slot) (x f.slot) = fill r x ((b.put (some f.slot) (x f.slot)).put (some g.slot) (x g.slot))
        by_cases h : f.slot = g.slot
        · rw [← h, put_put]; exact ih b
        · rw [put_comm b h, ih]
    rw [e]
    exact fill_idem x r _
/-- An act with other deferred calls. -/
def withD (a : Act) (ds : List Deferred) : Act := { a with defers := ds }
theorem fill_D (x : Nat → Value) (ds : List Deferred) : ∀ (F : List Fl) (a : Act), withD (fill F x a) ds = fill F x (withD a ds)
  | [], _ => rfl
  | f :: r, a => by
    show withD (fill r x (a.put (some f.slot) (x f.slot))) ds = fill r x ((withD a ds).put (some f.slot) (x f.slot))
    rw [fill_D x ds r]
    rfl
theorem getD_fill (x : Nat → Value) (s : Nat) : ∀ (F : List Fl) (a : Act), (∀ f ∈ F, f.slot = s → x s = a.tmps.getD s undef) → (fill F x a).tmps.getD s undef = a.tmps.getD s undef
  | [], _, _ => rfl
  | f :: r, a, h => by
    have e : (a.put (some f.slot) (x f.slot)).tmps.getD s undef = a.tmps.getD s undef := by
      by_cases hs : f.slot = s
      · subst hs
        have := h f (List.mem_cons_self ..) rfl
        simp only [Act.put, Array.getD_eq_getD_getElem?, Array.getElem?_setIfInBounds] at *
        by_cases hl : f.slot < a.tmps.size
        · simp [hl] at *; exact this
        · simp [hl]
      · exact getD_put a _ _ s (fun k => hs (Option.some.inj k))
    show (fill r x (a.put (some f.slot) (x f.slot))).tmps.getD s undef = _
    rw [getD_fill x s r _ fun g hg k => by rw [e]; exact h g (List.mem_cons_of_mem _ hg) k, e]
/-- What follows an operation follows it at the act in which its slot is filled. -/
theorem wp_put {P : Program} {o : Oper} {a : Act} {w : World} {K : Act → World → Prop} {Q : Exit → Act → World → Prop} (h : o.wp P a w K Q) : o.wp P a w (fun a' w' => (∃ ds v, a' = (withD a ds).put o.dst v) ∧ K a' w') Q := by
  unfold Oper.wp at *
  cases hr : (execOp a.eval o).run P w with
  | halt y w1 => rw [hr] at h; cases y <;> exact h
  | ok nx w1 =>
    rw [hr] at h
    cases nx with
    | value v => exact ⟨⟨a.defers, v, rfl⟩, h⟩
    | skip => exact ⟨⟨a.defers, undef, rfl⟩, h⟩
    | defer d => exact ⟨⟨d :: a.defers, undef, rfl⟩, h⟩
    | enter f args =>
      refine Calls.mono h fun e w'' k => ?_
      cases e with
      | returned v => exact ⟨⟨a.defers, v, rfl⟩, k⟩
      | panicked c => exact k
      | outgrown => exact k
    | row r args => exact Rows.mono h fun v w'' k => ⟨⟨a.defers, v, rfl⟩, k⟩
    | _ => exact h

/-- How many are still to come up. -/
def left : List Fl → (Nat → Bool) → Nat
  | [], _ => 0
  | f :: r, m => left r m + (if m f.idx then 0 else 1)
theorem on_le (m : Nat → Bool) (j k : Nat) : (if on m j k then 0 else 1) ≤ (if m k then 0 else 1) := by
  unfold on
  cases (k == j) <;> cases m k <;> simp
theorem left_mono (m : Nat → Bool) (j : Nat) : ∀ r : List Fl, left r (on m j) ≤ left r m
  | [] => Nat.le_refl _
  | g :: r => Nat.add_le_add (left_mono m j r) (on_le m j g.idx)
theorem left_on : ∀ (F : List Fl) (m : Nat → Bool) (f : Fl), f ∈ F → m f.idx = false → left F (on m f.idx) + 1 ≤ left F m
  | g :: r, m, f, hf, hm => by
    have a := left_mono m f.idx r
    have b := on_le m f.idx g.idx
    unfold left
    rcases List.mem_cons.1 hf with e | k
    · subst e
      have : on m f.idx f.idx = true := by simp [on]
      rw [this, hm]
      simp
      exact a
    · have ih := left_on r m f k hm
      omega
theorem nodup_same : ∀ {F : List Fl}, (F.map (·.slot)).Nodup → ∀ f ∈ F, ∀ g ∈ F, g.slot = f.slot → g = f
  | [], _, f, hf, _, _, _ => by cases hf
  | b :: r, hn, f, hf, g, hg, e => by
    rw [List.map_cons, List.nodup_cons] at hn
    rcases List.mem_cons.1 hg with h1 | hg'
    · rcases List.mem_cons.1 hf with h2 | hf'
      · rw [h1, h2]
      · exact absurd (List.mem_map.2 ⟨f, hf', by rw [← e, h1]⟩) hn.1
    · rcases List.mem_cons.1 hf with h2 | hf'
      · exact absurd (List.mem_map.2 ⟨g, hg', by rw [e, h2]⟩) hn.1
      · exact nodup_same hn.2 f hf' g hg' e

section
variable {P : Program} {l : List Oper} {C : World → Prop} {Q : Exit → Act → World → Prop} {n0 : Nat}
/-- What the prover says of each of the allocations. -/
def FlOk (P : Program) (l : List Oper) (f : Fl) : Prop := ∃ o, l.toArray[f.idx]? = some o ∧ o.dst = some f.slot ∧ o.guard = none ∧ ∀ ρ w, ρ (.tmp f.src) = f.val → (execOp ρ o).run P w = .ok (.value (sl1 w.heap.size)) (w.alloc (.cells f.cs f.ty))

/-- One of them comes up. -/
theorem Inv.step {F : List Fl} {m : Nat → Bool} {x : Nat → Value} {a : Act} {H : List (Nat × Nat)} {L : List Nat} {w : World} (h : Inv F m x a n0 H L w) (hn : (F.map (·.slot)).Nodup) (hi : ∀ f ∈ F, ∀ f' ∈ F, f.idx = f'.idx → f.slot = f'.slot) (h0 : n0 ≤ w.heap.size) (f : Fl) (hf : f ∈ F) (hm : m f.idx = false) :
    Inv F (on m f.idx) (upd x f.slot (sl1 w.heap.size)) a n0 H L (w.alloc (.cells f.cs f.ty)) := by
  have same : ∀ g ∈ F, g.slot = f.slot → g = f := nodup_same hn f hf
  have on_ : ∀ g ∈ F, g.slot ≠ f.slot → on m f.idx g.idx = m g.idx := fun g hg hne => by
    have hb : (g.idx == f.idx) = false := by simpa using fun e => hne (hi g hg f hf e)
    simp [on, hb]
  have onf : on m f.idx f.idx = true := by simp [on]
  refine ⟨h.ne, h.src, fun g hg hmg => ?_, fun g hg hmg => ?_, fun g hg g' hg' hne hmg hmg' => ?_, fun p hp => ?_, fun g hg => ?_⟩
  · by_cases e : g.slot = f.slot
    · rw [same g hg e, onf] at hmg; cases hmg
    · rw [on_ g hg e] at hmg
      simp only [upd, if_neg e]
      exact h.old g hg hmg
  · by_cases e : g.slot = f.slot
    · obtain rfl := same g hg e
      exact ⟨w.heap.size, by simp [upd], heap_alloc_new w _, h0, fun p hp => .inr (h.past p hp), fun hl => by have := h.met _ hl; omega⟩
    · rw [on_ g hg e] at hmg
      obtain ⟨b, h1, h2, h3⟩ := h.new g hg hmg
      exact ⟨b, by simp only [upd, if_neg e]; exact h1, (Below.heap_alloc w _ b (lt_of_block h2)).trans h2, h3⟩
  · by_cases e : g.slot = f.slot
    · have e' : g'.slot ≠ f.slot := fun k => hne (e.trans k.symm)
      rw [on_ g' hg' e'] at hmg'
      obtain ⟨b, h1, h2, _⟩ := h.new g' hg' hmg'
      have := lt_of_block h2
      simp only [upd, if_pos e, if_neg e', h1]
      exact fun k => by have := sl1_inj.1 k; omega
    · by_cases e' : g'.slot = f.slot
      · rw [on_ g hg e] at hmg
        obtain ⟨b, h1, h2, _⟩ := h.new g hg hmg
        have := lt_of_block h2
        simp only [upd, if_neg e, if_pos e', h1]
        exact fun k => by have := sl1_inj.1 k; omega
      · rw [on_ g hg e] at hmg
        rw [on_ g' hg' e'] at hmg'
        simp only [upd, if_neg e, if_neg e']
        exact h.apart g hg g' hg' hne hmg hmg'
  · have := h.past p hp
    simp
    omega
  · have := h.met g hg
    simp
    omega
/-- How many of the schedule's rows are operations. -/
def cnt : List (Nat × Nat) → Nat
  | [] => 0
  | (0, _) :: r => cnt r + 1
  | (1, _) :: r => cnt r + 1
  | (_ + 2, _) :: r => cnt r

/-- What holds of a state that the walk has come to. -/
def Holds (P : Program) (l : List Oper) (C : World → Prop) (Q : Exit → Act → World → Prop) (n0 : Nat) (n : Nat) : Prop :=
  ∀ (sc : List (Nat × Nat)) (F : List Fl) (H : List (Nat × Nat)) (L : List Nat) (listed : Array Bool) (fuel : Nat) (a : Act) (w : World) (m : Nat → Bool) (x : Nat → Value) (w' : World),
    2 * fuel + sc.length ≤ n → good l.toArray sc F listed = true → (∀ f ∈ F, FlOk P l f) → (F.map (·.slot)).Nodup → (∀ f ∈ F, ∀ f' ∈ F, f.idx = f'.idx → f.slot = f'.slot) → Inv F m x a n0 H L w' → Below w.heap.size w w' → C w' →
    cnt sc + left F m ≤ fuel → wpSg P l.toArray C Q n0 (picks l sc) F H L a w → wpAnyH P .any l.toArray Q C fuel (marks listed (doneOf F m)) (fill F x a) w'

theorem wanted_none {o : Oper} {y : Nat → Option Bool} (h : o.guard = none) : Region.wanted o y = true := by simp [Region.wanted, h]
/-- One of the allocations is carried out. -/
theorem float {n : Nat} (ih : Holds P l C Q n0 n) (hC : ∀ w, C w → n0 ≤ w.heap.size) (hA : ∀ w o, C w → C (w.alloc o)) {sc : List (Nat × Nat)} {F : List Fl} {H : List (Nat × Nat)} {L : List Nat} {listed : Array Bool} {fuel : Nat} {a : Act} {w : World} {m : Nat → Bool} {x : Nat → Value} {w' : World}
    (hn : 2 * (fuel + 1) + sc.length ≤ n + 1) (hg : good l.toArray sc F listed = true) (hF : ∀ f ∈ F, FlOk P l f) (hs : (F.map (·.slot)).Nodup) (hi : ∀ f ∈ F, ∀ f' ∈ F, f.idx = f'.idx → f.slot = f'.slot) (hI : Inv F m x a n0 H L w') (hb : Below w.heap.size w w') (hc : C w')
    (hf : cnt sc + left F m ≤ fuel + 1) (h : wpSg P l.toArray C Q n0 (picks l sc) F H L a w) (f : Fl) (hff : f ∈ F) (hm : m f.idx = false) :
    wpOp P l.toArray Q f.idx (fun a' w' => C w' ∧ wpAnyH P .any l.toArray Q C fuel ((marks listed (doneOf F m)).setIfInBounds f.idx true) a' w') (fill F x a) w' := by
  obtain ⟨o, ho, hd, hgd, hrun⟩ := hF f hff
  unfold wpOp
  simp only [ho, wanted_none hgd, if_true]
  refine .inl ?_
  unfold Oper.wp
  rw [hrun _ _ (by show (fill F x a).tmps.getD f.src undef = f.val; rw [getD_fill x f.src F a fun g hg e => absurd e (hI.ne g hg f hff)]; exact hI.src f hff)]
  rw [Oper.upon_value, hd, fill_set x f.slot _ F a hs ⟨f, hff, rfl⟩, marks_on listed F m f hff]
  have lo := left_on F m f hff hm
  exact ⟨hA _ _ hc, ih sc F H L listed fuel a w _ _ _ (by omega) hg hF hs hi (hI.step hs hi (hC _ hc) f hff hm) (hb.trans ((Below.refl _ _).alloc hb.size _)) (hA _ _ hc) (by omega) h⟩

theorem holds (hsel : Region.noSelect l.toArray = true) (hQ : ∀ c d v a w, Q (.panic c) (Act.put a d v) w → Q (.panic c) a w) (hC : ∀ w, C w → n0 ≤ w.heap.size) (hA : ∀ w o, C w → C (w.alloc o)) : ∀ n, Holds P l C Q n0 n := by
  intro n
  induction n with
  | zero =>
    intro sc F H L listed fuel a w m x w' hn hg hF hs hi hI hb hc hf h
    have e : sc = [] := List.length_eq_zero_iff.1 (by omega)
    subst e
    unfold good at hg
    simp only [Bool.and_eq_true, List.isEmpty_iff] at hg
    obtain ⟨rfl, hr⟩ := hg
    exact wpAnyH_done hr (h w' hb hc) fuel
  | succ n ih =>
    intro sc F H L listed fuel a w m x w' hn hg hF hs hi hI hb hc hf h
    match sc, hg, h, hn, hf with
    | [], hg, h, _, _ =>
      unfold good at hg
      simp only [Bool.and_eq_true, List.isEmpty_iff] at hg
      obtain ⟨rfl, hr⟩ := hg
      exact wpAnyH_done hr (h w' hb hc) fuel
    | (0, i) :: r, hg, h, hn, hf =>
      have hg' : (_ && good l.toArray r F (listed.setIfInBounds i true)) = true := hg
      rw [Bool.and_eq_true] at hg'
      obtain ⟨hg1, hg2⟩ := hg'
      cases ho : l[i]? with
      | none => simp [ho] at hg1
      | some o =>
        have hop : l.toArray[i]? = some o := by simp [ho]
        rw [hop] at hg1
        simp only [Bool.and_eq_true, List.all_eq_true] at hg1
        obtain ⟨⟨hl, hds⟩, hm⟩ := hg1
        have hds' : ∀ f ∈ F, o.dst ≠ some f.slot := fun f hf => by have := hds f hf; simp at this; simpa using this.1
        have hdr : ∀ f ∈ F, o.dst ≠ some f.src := fun f hf => by have := hds f hf; simp at this; simpa using this.2
        have hm' := allMasks_spec F _ hm m
        simp only [Bool.and_eq_true] at hm'
        rw [picks, ho] at h
        obtain ⟨fuel, rfl⟩ : ∃ k, fuel = k + 1 := ⟨fuel - 1, by simp only [cnt] at hf; omega⟩
        have q := h x
        unfold wpQuiet at q
        have next : ∀ v', wpSg P l.toArray C Q n0 (picks l r) F H L ((fill F x a).put o.dst v') w → wpAnyH P .any l.toArray Q C fuel ((marks listed (doneOf F m)).setIfInBounds i true) ((fill F x a).put o.dst v') w' := fun v' hnx => by
          have k := ih r F H L (listed.setIfInBounds i true) fuel ((fill F x a).put o.dst v') w m x w' (by simp at hn; omega) hg2 hF hs hi ⟨hI.ne, fun f hff => by rw [getD_put _ o.dst v' f.src (hdr f hff), getD_fill x f.src F a fun g hg e => absurd e (hI.ne g hg f hff)]; exact hI.src f hff, fun f hff hmf => ?_, hI.new, hI.apart, hI.past, hI.met⟩ hb hc (by simp only [cnt] at hf; omega) hnx
          · rw [fill_put x o.dst v' F a hds', fill_idem, ← marks_set] at k
            rw [fill_put x o.dst v' F a hds']
            exact k
          · rw [getD_put _ o.dst v' f.slot (hds' f hff), getD_fill x f.slot F a fun g hg e => by rw [← e]; obtain rfl := nodup_same hs f hff g hg e; exact hI.old g hg hmf]
            exact hI.old f hff hmf
        by_cases hw : Region.wanted o (yielded l.toArray (fill F x a).tmps) = true
        · rw [if_pos hw] at q
          obtain ⟨v', hv', e⟩ := q
          refine wpAnyH_take (v := v') hop hsel hm'.1 hm'.2 (fun c a w => hQ c _ _ a w) (.inl ⟨hw, fun w2 hw2 => ?_⟩) hc (next v' e)
          have q2 := hv' w2 hw2
          unfold Oper.quietAt at q2
          cases e2 : (execOp (fill F x a).eval o).run P w2 with
          | halt y w1 => rw [e2] at q2; cases q2
          | ok nx w1 =>
            obtain ⟨u, rfl⟩ := light_value hl e2
            rw [e2] at q2
            obtain ⟨e3, e4⟩ := q2
            rw [e3, e4]
        · rw [if_neg hw] at q
          exact wpAnyH_take (v := undef) hop hsel hm'.1 hm'.2 (fun c a w => hQ c _ _ a w) (.inr ⟨by simpa using hw, rfl⟩) hc (next undef q)
    | (1, i) :: r, hg, h, hn, hf =>
      have hg0 := hg
      have h0 := h
      have hg' : (_ && good l.toArray r F (listed.setIfInBounds i true)) = true := hg
      rw [Bool.and_eq_true] at hg'
      obtain ⟨hg1, hg2⟩ := hg'
      cases ho : l[i]? with
      | none => simp [ho] at hg1
      | some o =>
        have hop : l.toArray[i]? = some o := by simp [ho]
        rw [hop] at hg1
        simp only [Bool.and_eq_true, List.all_eq_true] at hg1
        obtain ⟨hds, hm⟩ := hg1
        have hds' : ∀ f ∈ F, o.dst ≠ some f.slot := fun f hf => by have := hds f hf; simp at this; simpa using this.1
        have hdr : ∀ f ∈ F, o.dst ≠ some f.src := fun f hf => by have := hds f hf; simp at this; simpa using this.2
        have hm' := allMasks_spec F _ hm m
        simp only [Bool.and_eq_true, List.all_eq_true] at hm'
        rw [picks, ho] at h
        obtain ⟨hw, hwp⟩ := h x w' hb hc
        obtain ⟨fuel, rfl⟩ : ∃ k, fuel = k + 1 := ⟨fuel - 1, by simp only [cnt] at hf; omega⟩
        refine wpAnyH_all rfl (fun e => by rw [e] at hm'; simp at hm') fun j hj => ?_
        have hj' := hm'.2 j hj
        rw [Bool.or_eq_true] at hj'
        rcases hj' with e | hfl
        · obtain rfl : j = i := by simpa using e
          unfold wpOp
          simp only [hop, hw, if_true]
          refine .inl (Oper.wp_mono (fun a'' w'' hh => ?_) (wp_put hwp))
          obtain ⟨⟨ds, v, rfl⟩, c2, hsz, hbel, hT⟩ := hh
          refine ⟨c2, ?_⟩
          have k := ih r F _ L (listed.setIfInBounds j true) fuel ((withD (fill F x a) ds).put o.dst v) w'' m x w'' (by simp at hn; omega) hg2 hF hs hi ⟨hI.ne, fun f hff => by rw [fill_D, getD_put _ o.dst v f.src (hdr f hff), getD_fill x f.src F _ fun g hg e => absurd e (hI.ne g hg f hff)]; exact hI.src f hff, fun f hff hmf => ?_, fun f hff hmf => ?_, hI.apart, fun p hp => ?_, fun g hg => Nat.lt_of_lt_of_le (hI.met g hg) hsz⟩ (Below.refl _ _) c2 (by simp only [cnt] at hf; omega) hT
          · rw [fill_D, fill_put x o.dst v F _ hds', fill_idem, ← marks_set] at k
            rw [fill_D, fill_put x o.dst v F _ hds']
            exact k
          · rw [fill_D, getD_put _ o.dst v f.slot (hds' f hff), getD_fill x f.slot F _ fun g hg e => by rw [← e]; obtain rfl := nodup_same hs f hff g hg e; exact hI.old g hg hmf]
            exact hI.old f hff hmf
          · obtain ⟨g, g1, g2, g3, g4, g5⟩ := hI.new f hff hmf
            refine ⟨g, g1, (hbel g g3 (lt_of_block g2)).trans g2, g3, fun p hp => ?_, g5⟩
            rcases List.mem_cons.1 hp with rfl | hp
            · exact .inl (lt_of_block g2)
            · exact g4 p hp
          · rcases List.mem_cons.1 hp with rfl | hp
            · exact Nat.le_refl _
            · exact Nat.le_trans (hI.past p hp) hsz
        · obtain ⟨f, hff, he⟩ := List.any_eq_true.1 hfl
          rw [Bool.and_eq_true] at he
          obtain rfl : f.idx = j := by simpa using he.1
          have hmf : m f.idx = false := by
            have hd : f.idx ∉ doneOf F m := by simpa using he.2
            rw [mem_done] at hd
            cases hmm : m f.idx with
            | false => rfl
            | true => exact absurd ⟨hmm, f, hff, rfl⟩ hd
          exact float ih hC hA hn hg0 hF hs hi hI hb hc hf h0 f hff hmf
    | (k + 2, i) :: r, hg, h, hn, hf =>
      have hg0 := hg
      have h0 := h
      match F, hg, h, hF, hs, hi, hI, hf, hg0, h0 with
      | [], hg, h, _, _, _, _, _, _, _ => simp [good] at hg
      | f :: F, hg, h, hF, hs, hi, hI, hf, hg0, h0 =>
        have hg' : ((l.toArray[i]?).isSome && allMasks (f :: F) _ && good l.toArray r F (listed.setIfInBounds f.idx true)) = true := hg
        rw [Bool.and_eq_true, Bool.and_eq_true] at hg'
        obtain ⟨⟨hio, hm⟩, hg2⟩ := hg'
        have hm' := allMasks_spec (f :: F) _ hm m
        cases hmm : m f.idx with
        | true =>
          obtain ⟨g, g1, g2, g3, g4, g5⟩ := hI.new f (List.mem_cons_self ..) hmm
          have hp : ∀ {o : Oper}, wpSg P l.toArray C Q n0 ((k + 2, o) :: picks l r) (f :: F) H L a w → wpSg P l.toArray C Q n0 (picks l r) F H (g :: L) (a.put (some f.slot) (sl1 g)) w' := fun h => h g w' hb hc g2 g3 g4 g5
          have hT : wpSg P l.toArray C Q n0 (picks l r) F H (g :: L) (a.put (some f.slot) (sl1 g)) w' := by
            cases ho : l[i]? with
            | none => simp [ho] at hio
            | some o =>
              rw [picks, ho] at h
              exact hp h
          have hd : doneOf (f :: F) m = f.idx :: doneOf F m := by unfold doneOf; rw [List.filter_cons, if_pos hmm]; rfl
          rw [hd]
          show wpAnyH P .any l.toArray Q C fuel (marks (listed.setIfInBounds f.idx true) (doneOf F m)) (fill F x (a.put (some f.slot) (x f.slot))) w'
          rw [g1]
          rw [List.map_cons, List.nodup_cons] at hs
          have hne : ∀ f' ∈ F, f.slot ≠ f'.slot := fun f' h' e => hs.1 (List.mem_map.2 ⟨f', h', e.symm⟩)
          refine ih r F H (g :: L) _ fuel _ w' m x w' (by simp at hn; omega) hg2 (fun f' h' => hF f' (List.mem_cons_of_mem _ h')) hs.2 (fun a ha b hb => hi a (List.mem_cons_of_mem _ ha) b (List.mem_cons_of_mem _ hb)) ⟨fun a ha b hb => hI.ne a (List.mem_cons_of_mem _ ha) b (List.mem_cons_of_mem _ hb), fun f' h' => by rw [getD_put a _ _ f'.src (fun e => hI.ne f (List.mem_cons_self ..) f' (List.mem_cons_of_mem _ h') (Option.some.inj e))]; exact hI.src f' (List.mem_cons_of_mem _ h'), fun f' h' hmf => ?_, fun f' h' hmf => ?_, fun f' h' f'' h'' => hI.apart f' (List.mem_cons_of_mem _ h') f'' (List.mem_cons_of_mem _ h''), hI.past, fun b hb => ?_⟩ (Below.refl _ _) hc ?_ hT
          · rw [getD_put a _ _ f'.slot (fun e => hne f' h' (Option.some.inj e))]
            exact hI.old f' (List.mem_cons_of_mem _ h') hmf
          · obtain ⟨b, b1, b2, b3, b4, b5⟩ := hI.new f' (List.mem_cons_of_mem _ h') hmf
            refine ⟨b, b1, b2, b3, b4, fun hl => ?_⟩
            rcases List.mem_cons.1 hl with e | hl
            · exact hI.apart f' (List.mem_cons_of_mem _ h') f (List.mem_cons_self ..) (fun e => hne f' h' e.symm) hmf hmm (by rw [b1, g1, e])
            · exact b5 hl
          · rcases List.mem_cons.1 hb with rfl | hb
            · exact lt_of_block g2
            · exact hI.met b hb
          · simp only [cnt, left, hmm] at hf
            simpa using hf
        | false =>
          have hd : (doneOf (f :: F) m).contains f.idx = false := by
            have : f.idx ∉ doneOf (f :: F) m := fun h => by rw [mem_done, hmm] at h; simp at h
            simpa using this
          rw [hd, Bool.false_or] at hm'
          simp only [Bool.and_eq_true, List.all_eq_true] at hm'
          have lf := left_on (f :: F) m f (List.mem_cons_self ..) hmm
          obtain ⟨fuel, rfl⟩ : ∃ k, fuel = k + 1 := ⟨fuel - 1, by omega⟩
          refine wpAnyH_all rfl (fun e => by rw [e] at hm'; simp at hm') fun j hj => ?_
          obtain ⟨f', hff, he⟩ := List.any_eq_true.1 (hm'.2 j hj)
          rw [Bool.and_eq_true] at he
          obtain rfl : f'.idx = j := by simpa using he.1
          have hmf : m f'.idx = false := by
            have hd : f'.idx ∉ doneOf (f :: F) m := by simpa using he.2
            rw [mem_done] at hd
            cases hmm : m f'.idx with
            | false => rfl
            | true => exact absurd ⟨hmm, f', hff, rfl⟩ hd
          exact float ih hC hA hn hg0 hF hs hi hI hb hc hf h0 f' hff hmf
theorem fill_self (a : Act) : ∀ F : List Fl, fill F (fun s => a.tmps.getD s undef) a = a
  | [] => rfl
  | f :: r => by
    have e : a.put (some f.slot) (a.tmps.getD f.slot undef) = a := by
      simp only [Act.put]
      have : a.tmps.setIfInBounds f.slot (a.tmps.getD f.slot undef) = a.tmps := by
        refine Array.ext_getElem? fun k => ?_
        rw [Array.getElem?_setIfInBounds]
        by_cases hk : f.slot = k
        · subst hk
          by_cases hl : f.slot < a.tmps.size
          · simp [hl]
          · simp [hl]
        · simp [hk]
      rw [this]
    show fill r (fun s => a.tmps.getD s undef) (a.put (some f.slot) (a.tmps.getD f.slot undef)) = a
    rw [e]
    exact fill_self a r
theorem left_all : ∀ F : List Fl, left F (fun _ => false) = F.length
  | [] => rfl
  | f :: r => by show left r _ + 1 = r.length + 1; rw [left_all r]

/-- The first phase: the light operations. -/
def picksL (l : List Oper) : List Nat → List Oper
  | [] => []
  | i :: r => match l[i]? with
    | some o => o :: picksL l r
    | none => picksL l r
def goodL (ops : Array Oper) : List Nat → Array Bool → Bool
  | [], _ => true
  | i :: r, L => (match ops[i]? with
    | some o => light o.op && Region.free .any ops L i && (Region.ready .any ops L).contains i
    | none => false) && goodL ops r (L.setIfInBounds i true)
def wpL (P : Program) (ops : Array Oper) (C : World → Prop) (K : Act → Prop) : List Oper → Act → Prop
  | [], a => K a
  | o :: r, a => wpQuiet P ops C (fun a' => wpL P ops C K r a') [o] a
theorem lights {P : Program} {l : List Oper} {C : World → Prop} {Q : Exit → Act → World → Prop} {w : World} {K : Act → Prop} {fuel : Nat} (hs : Region.noSelect l.toArray = true) (hQ : ∀ c d v a w, Q (.panic c) (Act.put a d v) w → Q (.panic c) a w) (hC : C w) :
    ∀ (sc : List Nat) (listed : Array Bool) (a : Act), goodL l.toArray sc listed = true → (∀ a', K a' → wpAnyH P .any l.toArray Q C fuel (marks listed sc) a' w) → wpL P l.toArray C K (picksL l sc) a → wpAnyH P .any l.toArray Q C (fuel + sc.length) listed a w
  | [], listed, a, _, hk, h => hk a h
  | i :: r, listed, a, hg, hk, h => by
    unfold goodL at hg
    rw [Bool.and_eq_true] at hg
    obtain ⟨hg1, hg2⟩ := hg
    have hll : l.toArray[i]? = l[i]? := by rw [List.getElem?_toArray]
    cases ho : l[i]? with
    | none => rw [hll, ho] at hg1; cases hg1
    | some o =>
      rw [hll, ho] at hg1
      have hop : l.toArray[i]? = some o := hll.trans ho
      have hp : picksL l (i :: r) = o :: picksL l r := by rw [picksL, ho]
      rw [hp] at h
      simp only [Bool.and_eq_true] at hg1
      obtain ⟨⟨hl, hf⟩, hr⟩ := hg1
      unfold wpL at h
      show wpAnyH P .any l.toArray Q C ((fuel + r.length) + 1) listed a w
      by_cases hw : Region.wanted o (yielded l.toArray a.tmps) = true
      · unfold wpQuiet at h
        rw [if_pos hw] at h
        obtain ⟨v, hv, hn⟩ := h
        refine wpAnyH_take (v := v) hop hs hf hr (fun c a w => hQ c _ _ a w) (.inl ⟨hw, fun w' hw' => ?_⟩) hC (lights hs hQ hC r _ _ hg2 hk hn)
        have q := hv w' hw'
        unfold Oper.quietAt at q
        cases e : (execOp a.eval o).run P w' with
        | halt x w1 => rw [e] at q; cases q
        | ok n w1 =>
          obtain ⟨u, rfl⟩ := light_value hl e
          rw [e] at q
          obtain ⟨e1, e2⟩ := q
          rw [e1, e2]
      · unfold wpQuiet at h
        rw [if_neg hw] at h
        exact wpAnyH_take (v := undef) hop hs hf hr (fun c a w => hQ c _ _ a w) (.inr ⟨by simpa using hw, rfl⟩) hC (lights hs hQ hC r _ _ hg2 hk h)

theorem start {id : Nat} {l : List Oper} {Q : Exit → Act → World → Prop} {a : Act} {w : World} (C : World → Prop) (ls : List Nat) (sc : List (Nat × Nat)) (F : List Fl) (hm : P.follows .mixedOrders = true) (hs : Region.noSelect l.toArray = true)
    (hgl : goodL l.toArray ls (Array.replicate l.toArray.size false) = true) (hg : good l.toArray sc F (marks (Array.replicate l.toArray.size false) ls) = true) (hc : cnt sc + F.length + ls.length = l.toArray.size) (hn : (F.map (·.slot)).Nodup) (hi : ∀ f ∈ F, ∀ f' ∈ F, f.idx = f'.idx → f.slot = f'.slot) (hx : ∀ f ∈ F, ∀ g ∈ F, f.slot ≠ g.src) (hF : ∀ f ∈ F, FlOk P l f)
    (h0 : C w.drew) (hn0 : ∀ w', C w' → w.heap.size ≤ w'.heap.size) (hA : ∀ w' o, C w' → C (w'.alloc o))
    (h : wpL P l.toArray (fun w' => ∃ p : In C, w' = p.world) (fun a' => (∀ f ∈ F, a'.tmps.getD f.src undef = f.val) ∧ wpSg P l.toArray (fun w' => ∃ p : In C, w' = p.world) (NoPanic Q) w.heap.size (picks l sc) F [] [] a' w.drew) (picksL l ls) a) : (Code.region id l.toArray true).wp P Q a w :=
  wp_region_noPanic (wp_region_held_drew (S := fun w' => ∃ p : In C, w' = p.world) hm (Cl.of h0) fun _ => by
    have hfu : l.toArray.size = (cnt sc + F.length) + ls.length := by omega
    rw [hfu]
    rw [← hfu]
    refine (show wpAnyH P .any l.toArray (NoPanic Q) (fun w' => ∃ p : In C, w' = p.world) ((cnt sc + F.length) + ls.length) (Array.replicate l.toArray.size false) a w.drew from ?_) |> fun k => by rw [← hfu] at k; exact k
    refine lights hs (fun _ _ _ _ _ h => h) (Cl.of h0) ls _ a hgl (fun a' ha => ?_) h
    obtain ⟨hsrc, ha⟩ := ha
    have hd : doneOf F (fun _ => false) = [] := by unfold doneOf; simp
    have k := holds (P := P) (l := l) (C := fun w' => ∃ p : In C, w' = p.world) (Q := NoPanic Q) (n0 := w.heap.size) hs (fun _ _ _ _ _ h => h) (fun w' h => by obtain ⟨p, rfl⟩ := h; exact hn0 _ p.ok) (fun w' o h => by obtain ⟨p, rfl⟩ := h; exact Cl.of (hA _ _ p.ok)) (2 * (cnt sc + F.length) + sc.length) sc F [] [] (marks (Array.replicate l.toArray.size false) ls) (cnt sc + F.length) a' w.drew (fun _ => false) (fun s => a'.tmps.getD s undef) w.drew
      (Nat.le_refl _) hg hF hn hi ⟨hx, hsrc, fun _ _ _ => rfl, fun _ _ h => (by cases h), fun _ _ _ _ _ h => (by cases h), fun _ hp => (by cases hp), fun _ hg => (by cases hg)⟩ (Below.refl _ _) (Cl.of h0) (by rw [left_all]; exact Nat.le_refl _) ha
    rw [hd, fill_self] at k
    exact k)

section
variable {ops : Array Oper} {a : Act} {w : World} {o : Oper} {r : List (Nat × Oper)} {F : List Fl} {H : List (Nat × Nat)} {L : List Nat}
theorem lit (h : ∀ x, wpQuiet P ops C (fun a' => wpSg P ops C Q n0 r F H L a' w) [o] (fill F x a)) : wpSg P ops C Q n0 ((0, o) :: r) F H L a w := h
/-- A call, or another operation that writes. -/
theorem call (h : ∀ x w', Below w.heap.size w w' → C w' → Region.wanted o (yielded ops (fill F x a).tmps) = true ∧
      ∀ K : Act → World → Prop, (∀ a'' w'', C w'' → w'.heap.size ≤ w''.heap.size → (∀ g, n0 ≤ g → g < w'.heap.size → w''.heap[g]? = w'.heap[g]?) → wpSg P ops C Q n0 r F ((w'.heap.size, w''.heap.size) :: H) L a'' w'' → K a'' w'') → o.wp P (fill F x a) w' K Q) :
    wpSg P ops C Q n0 ((1, o) :: r) F H L a w := fun x w' hb hc => ⟨(h x w' hb hc).1, (h x w' hb hc).2 _ fun _ _ c s b k => ⟨c, s, b, k⟩⟩
/-- The next block is met. -/
theorem meet {f : Fl} (h : ∀ g w', Below w.heap.size w w' → C w' → w'.heap[g]? = some (.cells f.cs f.ty (0, 0)) → n0 ≤ g → (∀ p ∈ H, g < p.1 ∨ p.2 ≤ g) → g ∉ L → wpSg P ops C Q n0 r F H (g :: L) (a.put (some f.slot) (sl1 g)) w') :
    wpSg P ops C Q n0 ((2, o) :: r) (f :: F) H L a w := h
theorem done {Q : Exit → Act → World → Prop} (h : ∀ w', Below w.heap.size w w' → C w' → Q .normal a w') : wpSg P ops C (NoPanic Q) n0 [] F H L a w := h
end
end

end Go.Proofs.YtilacdjekdngkaaGreatDoor.Sg

/- Nodes that a law builds: cells in memory, and four lists that grow side by side. -/
namespace Go.Proofs.YtilacdjekdngkaaGreatDoor.Pa
open Go.RowKit Go.Maps
open Go.Proofs.YtilacdjekdngkaaGreatDoor.Fs (Abs St Rs Rst Only Fx Lst Ent OkA addE addA put key ins ow_only put_new ins_at look_none AddPost)
open Go.Proofs.YtilacdjekdngkaaGreatDoor.Rw (Rd Ow At Kind)
open Go.Proofs.YtilacdjekdngkaaGreatDoor.Ro (E5 K5 okE)
open Go.Proofs.YtilacdjekdngkaaGreatDoor.Ck (LL lat RdL KS Hd sl zh)
open Go.Proofs.YtilacdjekdngkaaGreatDoor.Fl (R4)
set_option maxRecDepth 100000

/-! ### the mathematics -/
/-- A store's files, put into a new one in their order: the next one. -/
theorem add_next {A : Abs} (h : OkA A) {k : Nat} {n p : Int} {l : List R4} (hc : A[k]? = some (n, p, l)) : addE (A.take k) n p l = 0 ∧ addA (A.take k) n p l = A.take (k + 1) := by
  have hk : k < A.length := by
    by_cases hk : k < A.length
    · exact hk
    · rw [List.getElem?_eq_none (by omega)] at hc; cases hc
  have hm : (n, p, l) ∈ A := List.mem_of_getElem? hc
  have lt : ∀ x ∈ A.take k, key x < n := fun x hx => by
    obtain ⟨i, hi⟩ := List.mem_iff_getElem?.1 hx
    have hik : i < k := by
      have : i < (A.take k).length := by
        by_cases q : i < (A.take k).length
        · exact q
        · rw [List.getElem?_eq_none (by omega)] at hi; cases hi
      rw [List.length_take] at this
      omega
    rw [List.getElem?_take, if_pos hik] at hi
    have q := List.pairwise_iff_getElem.1 h.srt i k (by omega) hk hik
    rw [List.getElem?_eq_getElem (by omega)] at hi
    rw [List.getElem?_eq_getElem hk] at hc
    injection hi with hi
    injection hc with hc
    rw [hi, hc] at q
    exact q
  have hn : Fs.look key n (A.take k) = none := look_none.2 fun x hx => by have := lt x hx; omega
  have e0 : addE (A.take k) n p l = 0 := by
    unfold addE
    rw [if_pos (h.nm _ hm), if_pos (h.good _ hm), hn]
    rfl
  refine ⟨e0, ?_⟩
  unfold addA
  rw [if_pos e0, put_new (c := (n, p, l)) hn, ins_at (k := (A.take k).length) (fun x hx => lt x (List.mem_of_mem_take hx)) (fun x hx => by rw [List.getElem?_eq_none (Nat.le_refl _)] at hx; cases hx), List.take_length, List.drop_length]
  rw [List.take_add_one, hc]
  rfl

/-! ### cells -/
structure Cel where
  files : Hd
  table : Hd
  live : Bool
  steps : Hd
  F : List Ent
  T : List E5
def celD : Cel := ⟨zh, zh, false, zh, [], []⟩
def KC : Rw.Kind Cel := ⟨fun c => [sl c.files, sl c.table, .bool c.live, sl c.steps], 4, by decide, fun _ => rfl, fun _ u h => by simp [sl] at h; rcases h with rfl | rfl | rfl | rfl <;> rfl, celD⟩
def cel (L : List Cel) (i : Nat) : Cel := L.getD i celD
structure Cls (w : World) (v : Value) (L : List Cel) : Prop where
  rd : Rd KC w v L
  file : ∀ i, i < L.length → Fls w (sl (cel L i).files) (cel L i).F w.heap.size
  tab : ∀ i, i < L.length → Rd K5 w (sl (cel L i).table) (cel L i).T
theorem at_cel {w : World} {b off : Nat} {L : List Cel} (h : At KC w b off L) {i : Nat} (hi : i < L.length) : w.cell? ⟨b, off + i * 4, none⟩ = some (sl (cel L i).files) ∧ w.cell? ⟨b, off + i * 4 + 1, none⟩ = some (sl (cel L i).table) ∧ w.cell? ⟨b, off + i * 4 + 2, none⟩ = some (.bool (cel L i).live) :=
  ⟨h i hi 0 _ rfl, h i hi 1 _ rfl, h i hi 2 _ rfl⟩

/-! ### four lists -/
def Q4 (o1 o2 o3 o4 : Value) (b : Nat) : Prop := o1.ownBlock = some b ∨ o2.ownBlock = some b ∨ o3.ownBlock = some b ∨ o4.ownBlock = some b
theorem ow_apart {α β : Type} {K : Kind α} {J : Kind β} {w : World} {B B' E E' : Nat} {v v' : Value} {l : List α} {l' : List β} (h : Ow K w B E v l) (h' : Ow J w B' E' v' l') (hE : E ≠ E') : ∀ k, v.ownBlock = some k → v'.ownBlock ≠ some k := fun k hk => by
  obtain ⟨_, h⟩ := h
  rcases h with ⟨rfl, _⟩ | ⟨g, cap, cur, rfl, _, hh, _⟩
  · simp [Value.ownBlock] at hk
  · simp only [Value.ownBlock, Option.some.injEq] at hk
    subst hk
    exact h'.apart hh hE
def St4 (w : World) (s : Nat) (A : Abs) (Q : Nat → Prop) : Prop := ∃ F, St w s F A 0 ∧ ∀ b, F b → ¬ Q b
theorem St4.grow {w w' : World} {s : Nat} {A : Abs} {Q Q' : Nat → Prop} (h : St4 w s A Q) (o : Only Q w w') (hq : ∀ b, Q' b → Fx Q w w' b) : St4 w' s A Q' := by
  obtain ⟨F, h, d⟩ := h
  refine ⟨F, h.only d o, fun b hb g => ?_⟩
  rcases hq b g with g | ⟨g, _⟩
  · exact d b hb g
  · have := h.low b hb; omega
theorem rs4_grow {w w' : World} {r : Nat} {A : Abs} {d : Int} {Q Q' : Nat → Prop} (h : Rs w r Q A d) (o : Only Q w w') (hq : ∀ b, Q' b → Fx Q w w' b) : Rs w' r Q' A d := rs_mono (Fs.Rs.only h o) fun k _ g => hq k g

/-- The first n stores are made; the lists hold so many of them. -/
structure B4I (w : World) (n : Nat) (P R : List Nat) (S : Sts) (o1 : Value) (l1 : List Nat) (o2 : Value) (l2 : List Nat) (o3 : Value) (l3 : List Hd) (o4 : Value) (l4 : List Bool) (wr : World) : Prop where
  w1 : Ow KN wr w.heap.size 38 o1 l1
  w2 : Ow KN wr w.heap.size 42 o2 l2
  w3 : Ow KS wr w.heap.size 59 o3 l3
  w4 : Ow KB wr w.heap.size 4 o4 l4
  st : ∀ i, i < n → St4 wr (P.getD i 0) (sat S i).1 (Q4 o1 o2 o3 o4)
  rf : ∀ i, i < n → Rs wr (R.getD i 0) (Q4 o1 o2 o3 o4) (sat S i).1 0
  bel : Below w.heap.size w wr
section
variable {w wr w' : World} {n : Nat} {P R : List Nat} {S : Sts} {o1 o2 o3 o4 o' : Value} {l1 l2 : List Nat} {l3 : List Hd} {l4 : List Bool}
theorem B4I.below (h : B4I w n P R S o1 l1 o2 l2 o3 l3 o4 l4 wr) (b : Below wr.heap.size wr w') : B4I w n P R S o1 l1 o2 l2 o3 l3 o4 l4 w' :=
  ⟨h.w1.keep b, h.w2.keep b, h.w3.keep b, h.w4.keep b, fun i hi => by obtain ⟨F, a, d⟩ := h.st i hi; exact ⟨F, a.below b, d⟩, fun i hi => Fs.Rs.below (h.rf i hi) b, h.bel.trans (b.mono h.bel.size)⟩
theorem B4I.low (h : B4I w n P R S o1 l1 o2 l2 o3 l3 o4 l4 wr) : ∀ k, Q4 o1 o2 o3 o4 k → w.heap.size ≤ k ∧ k < wr.heap.size := fun k g => by
  rcases g with g | g | g | g
  · exact World.ownsRow.lt h.w1 k g
  · exact World.ownsRow.lt h.w2 k g
  · exact World.ownsRow.lt h.w3 k g
  · exact World.ownsRow.lt h.w4 k g
theorem q_fx {q q' : Option Nat} {Q : Nat → Prop} (hq : q' = q ∨ ∃ g, q' = some g ∧ wr.heap.size ≤ g) (hl : ∀ g, q' = some g → g < w'.heap.size) (h : ∀ k, q = some k → Q k) : ∀ k, q' = some k → Fx Q wr w' k := fun k e => by
  rcases hq with rfl | ⟨g, rfl, hg⟩
  · exact .inl (h k e)
  · exact .inr ⟨by injection e with e; omega, hl _ e⟩
theorem B4I.grown (h : B4I w n P R S o1 l1 o2 l2 o3 l3 o4 l4 wr) {q : Option Nat} (gr : wr.grownBy w' q) (hq : ∀ k, q = some k → Q4 o1 o2 o3 o4 k) : Only (Q4 o1 o2 o3 o4) wr w' ∧ Below w.heap.size w w' :=
  ⟨(only_grown gr).mono fun k _ e => hq k e, h.bel.grown gr h.bel.size fun j e => (h.low j (hq j e)).1⟩
theorem B4I.push1 (h : B4I w n P R S o1 l1 o2 l2 o3 l3 o4 l4 wr) {x : Nat} (own : Ow KN w' w.heap.size 38 o' (l1 ++ [x])) (gr : wr.grownBy w' o1.ownBlock) (hq : o'.ownBlock = o1.ownBlock ∨ ∃ g, o'.ownBlock = some g ∧ wr.heap.size ≤ g) : B4I w n P R S o' (l1 ++ [x]) o2 l2 o3 l3 o4 l4 w' := by
  obtain ⟨o, b⟩ := h.grown gr fun k e => .inl e
  have fx : ∀ k, Q4 o' o2 o3 o4 k → Fx (Q4 o1 o2 o3 o4) wr w' k := fun k g => by
    rcases g with g | g
    · exact q_fx hq (fun g e => (World.ownsRow.lt own g e).2) (fun k e => .inl e) k g
    · exact .inl (.inr g)
  exact ⟨own, ow_only h.w2 (fun k e => ow_apart h.w2 h.w1 (by decide) k e) (only_grown gr), ow_only h.w3 (fun k e => ow_apart h.w3 h.w1 (by decide) k e) (only_grown gr), ow_only h.w4 (fun k e => ow_apart h.w4 h.w1 (by decide) k e) (only_grown gr), fun i hi => (h.st i hi).grow o fx, fun i hi => rs4_grow (h.rf i hi) o fx, b⟩
theorem B4I.push2 (h : B4I w n P R S o1 l1 o2 l2 o3 l3 o4 l4 wr) {x : Nat} (own : Ow KN w' w.heap.size 42 o' (l2 ++ [x])) (gr : wr.grownBy w' o2.ownBlock) (hq : o'.ownBlock = o2.ownBlock ∨ ∃ g, o'.ownBlock = some g ∧ wr.heap.size ≤ g) : B4I w n P R S o1 l1 o' (l2 ++ [x]) o3 l3 o4 l4 w' := by
  obtain ⟨o, b⟩ := h.grown gr fun k e => .inr (.inl e)
  have fx : ∀ k, Q4 o1 o' o3 o4 k → Fx (Q4 o1 o2 o3 o4) wr w' k := fun k g => by
    rcases g with g | g | g
    · exact .inl (.inl g)
    · exact q_fx hq (fun g e => (World.ownsRow.lt own g e).2) (fun k e => .inr (.inl e)) k g
    · exact .inl (.inr (.inr g))
  exact ⟨ow_only h.w1 (fun k e => ow_apart h.w1 h.w2 (by decide) k e) (only_grown gr), own, ow_only h.w3 (fun k e => ow_apart h.w3 h.w2 (by decide) k e) (only_grown gr), ow_only h.w4 (fun k e => ow_apart h.w4 h.w2 (by decide) k e) (only_grown gr), fun i hi => (h.st i hi).grow o fx, fun i hi => rs4_grow (h.rf i hi) o fx, b⟩
theorem B4I.push3 (h : B4I w n P R S o1 l1 o2 l2 o3 l3 o4 l4 wr) {x : Hd} (own : Ow KS w' w.heap.size 59 o' (l3 ++ [x])) (gr : wr.grownBy w' o3.ownBlock) (hq : o'.ownBlock = o3.ownBlock ∨ ∃ g, o'.ownBlock = some g ∧ wr.heap.size ≤ g) : B4I w n P R S o1 l1 o2 l2 o' (l3 ++ [x]) o4 l4 w' := by
  obtain ⟨o, b⟩ := h.grown gr fun k e => .inr (.inr (.inl e))
  have fx : ∀ k, Q4 o1 o2 o' o4 k → Fx (Q4 o1 o2 o3 o4) wr w' k := fun k g => by
    rcases g with g | g | g | g
    · exact .inl (.inl g)
    · exact .inl (.inr (.inl g))
    · exact q_fx hq (fun g e => (World.ownsRow.lt own g e).2) (fun k e => .inr (.inr (.inl e))) k g
    · exact .inl (.inr (.inr (.inr g)))
  exact ⟨ow_only h.w1 (fun k e => ow_apart h.w1 h.w3 (by decide) k e) (only_grown gr), ow_only h.w2 (fun k e => ow_apart h.w2 h.w3 (by decide) k e) (only_grown gr), own, ow_only h.w4 (fun k e => ow_apart h.w4 h.w3 (by decide) k e) (only_grown gr), fun i hi => (h.st i hi).grow o fx, fun i hi => rs4_grow (h.rf i hi) o fx, b⟩
theorem B4I.push4 (h : B4I w n P R S o1 l1 o2 l2 o3 l3 o4 l4 wr) {x : Bool} (own : Ow KB w' w.heap.size 4 o' (l4 ++ [x])) (gr : wr.grownBy w' o4.ownBlock) (hq : o'.ownBlock = o4.ownBlock ∨ ∃ g, o'.ownBlock = some g ∧ wr.heap.size ≤ g) : B4I w n P R S o1 l1 o2 l2 o3 l3 o' (l4 ++ [x]) w' := by
  obtain ⟨o, b⟩ := h.grown gr fun k e => .inr (.inr (.inr e))
  have fx : ∀ k, Q4 o1 o2 o3 o' k → Fx (Q4 o1 o2 o3 o4) wr w' k := fun k g => by
    rcases g with g | g | g | g
    · exact .inl (.inl g)
    · exact .inl (.inr (.inl g))
    · exact .inl (.inr (.inr (.inl g)))
    · exact q_fx hq (fun g e => (World.ownsRow.lt own g e).2) (fun k e => .inr (.inr (.inr e))) k g
  exact ⟨ow_only h.w1 (fun k e => ow_apart h.w1 h.w4 (by decide) k e) (only_grown gr), ow_only h.w2 (fun k e => ow_apart h.w2 h.w4 (by decide) k e) (only_grown gr), ow_only h.w3 (fun k e => ow_apart h.w3 h.w4 (by decide) k e) (only_grown gr), own, fun i hi => (h.st i hi).grow o fx, fun i hi => rs4_grow (h.rf i hi) o fx, b⟩
theorem B4I.start (w : World) : B4I w 0 [] [] [] (.slice (some ⟨w.heap.size, 0, none⟩) 0 0) [] (.slice (some ⟨(w.alloc (.cells #[] 38)).heap.size, 0, none⟩) 0 0) [] (.slice (some ⟨((w.alloc (.cells #[] 38)).alloc (.cells #[] 42)).heap.size, 0, none⟩) 0 0) [] (.slice (some ⟨(((w.alloc (.cells #[] 38)).alloc (.cells #[] 42)).alloc (.cells #[] 59)).heap.size, 0, none⟩) 0 0) []
    ((((w.alloc (.cells #[] 38)).alloc (.cells #[] 42)).alloc (.cells #[] 59)).alloc (.cells #[] 4)) := by
  have b1 : Below w.heap.size w (w.alloc (.cells #[] 38)) := (Below.refl _ _).alloc (Nat.le_refl _) _
  have b2 := b1.alloc b1.size (.cells #[] 42)
  have b3 := b2.alloc b2.size (.cells #[] 59)
  have b4 := b3.alloc b3.size (.cells #[] 4)
  exact ⟨(((Rw.Ow.made _ _ _ (Nat.le_refl _)).alloc _).alloc _).alloc _, ((Rw.Ow.made _ _ _ b1.size).alloc _).alloc _, (Rw.Ow.made _ _ _ b2.size).alloc _, Rw.Ow.made _ _ _ b3.size, fun i hi => by omega, fun i hi => by omega, b4⟩
/-- One more store. -/
theorem B4I.more {s r : Nat} {A : Abs} (h : B4I w n P R S o1 l1 o2 l2 o3 l3 o4 l4 wr) (hp : P.length = n) (hr : R.length = n) (hs : S.length = n) (a : St4 wr s A (Q4 o1 o2 o3 o4)) (b : Rs wr r (Q4 o1 o2 o3 o4) A 0) : B4I w (n + 1) (P ++ [s]) (R ++ [r]) (S ++ [(A, 0)]) o1 l1 o2 l2 o3 l3 o4 l4 wr := by
  have g : ∀ (l : List Nat) x i, l.length = n → i < n + 1 → (l ++ [x]).getD i 0 = if i < n then l.getD i 0 else x := fun l x i hl hi => by
    rw [List.getD_eq_getElem?_getD, List.getElem?_append, hl]
    split
    · rw [List.getD_eq_getElem?_getD]
    · obtain rfl : i = n := by omega
      simp
  have gs : ∀ i : Nat, i < n + 1 → sat (S ++ [(A, 0)]) i = if i < n then sat S i else (A, 0) := fun i hi => by
    unfold sat
    rw [Int.toNat_natCast, List.getD_eq_getElem?_getD, List.getElem?_append, hs]
    split
    · rw [List.getD_eq_getElem?_getD]
    · obtain rfl : i = n := by omega
      simp
  refine ⟨h.w1, h.w2, h.w3, h.w4, fun i hi => ?_, fun i hi => ?_, h.bel⟩
  · rw [g P s i hp hi, gs i hi]
    by_cases q : i < n
    · rw [if_pos q, if_pos q]; exact h.st i q
    · rw [if_neg q, if_neg q]; exact a
  · rw [g R r i hr hi, gs i hi]
    by_cases q : i < n
    · rw [if_pos q, if_pos q]; exact h.rf i q
    · rw [if_neg q, if_neg q]; exact b
end

/-! ### a store's files put into a new one -/
structure J4I (W : World) (Q : Nat → Prop) (s r : Nat) (A : Abs) (j : Nat) (F : Nat → Prop) (wr : World) : Prop where
  st : St wr s F (A.take j) 0
  rs : Rs wr r (fun k => Q k ∨ F k) A 0
  hi : ∀ k, F k → W.heap.size ≤ k
  bel : Below W.heap.size W wr
section
variable {W wr w' : World} {Q : Nat → Prop} {s r j : Nat} {A : Abs} {F : Nat → Prop}
theorem J4I.below (h : J4I W Q s r A j F wr) (b : Below wr.heap.size wr w') : J4I W Q s r A j F w' := ⟨h.st.below b, Fs.Rs.below h.rs b, h.hi, h.bel.trans (b.mono h.bel.size)⟩
theorem J4I.step (h : J4I W Q s r A j F wr) (a : St w' s (Fx F wr w') (A.take (j + 1)) 0) (o : Only F wr w') : J4I W Q s r A (j + 1) (Fx F wr w') w' := by
  have hz := h.bel.size
  refine ⟨a, rs_mono (Fs.Rs.only h.rs (o.mono fun _ _ g => .inr g)) fun k _ g => ?_, fun k g => ?_, h.bel.trans (o.below hz h.hi)⟩
  · rcases g with g | g | g
    · exact .inl (.inl g)
    · exact .inl (.inr g)
    · exact .inr g
  · rcases g with g | g
    · exact h.hi k g
    · omega
theorem J4I.done (h : J4I W Q s r A A.length F wr) (hQ : ∀ k, Q k → k < W.heap.size) : St4 wr s A Q ∧ Rs wr r Q A 0 := by
  refine ⟨⟨F, by have := h.st; rw [List.take_length] at this; exact this, fun b hb g => ?_⟩, rs_mono h.rs fun k _ g => .inl g⟩
  have := h.hi b hb
  have := hQ b g
  omega
end
end Go.Proofs.YtilacdjekdngkaaGreatDoor.Pa

/- The laws' nodes, built from their cells. -/
namespace Go.Proofs.YtilacdjekdngkaaGreatDoor.Pa
open Go.RowKit Go.Maps
open Go.Proofs.YtilacdjekdngkaaGreatDoor.Fs (Abs St Rs Rst Only Fx Lst Ent OkA addE addA new_any new_st below_new add_any AddPost at3 E3 ow_only)
open Go.Proofs.YtilacdjekdngkaaGreatDoor.Rw (Rd Ow At Kind)
open Go.Proofs.YtilacdjekdngkaaGreatDoor.Ro (E5 K5 okE)
open Go.Proofs.YtilacdjekdngkaaGreatDoor.Ck (LL lat RdL KS Hd sl zh rdl_of infoS)
open Go.Proofs.YtilacdjekdngkaaGreatDoor.Fl (R4 K4 okL row_cell row_frozen file)
set_option maxRecDepth 100000
attribute [local irreducible] Sd.wpSd wpQuiet Sg.wpSg

theorem flOk_of {P : Program} {l : List Oper} (f : Sg.Fl) (o : Oper) (t : TypeId) (z : Value) (bytes : Nat) (ho : l.toArray[f.idx]? = some o) (hd : o.dst = some f.slot) (hg : o.guard = none) (hop : o.op = .buildSlice t 1 #[(0, .tmp f.src)]) (hu : P.underlying t = some (.slice f.ty))
    (hi : (P.info? f.ty).map (fun i => (i.zero, i.size, i.bytes)) = some (some z, 1, bytes)) (hv : f.val.cells = #[f.val]) : Sg.FlOk P l f := by
  obtain ⟨i0, hi0, hz0, hz1, hz2⟩ := info_parts hi
  refine ⟨o, ho, hd, hg, fun ρ w hρ => ?_⟩
  unfold execOp
  have hf : Instr.fill (fun i => some (i * i0.size, i0.size)) ((Array.range (1 * i0.size)).map (z.cells[· % z.cells.size]!)) ((#[(0, Operand.tmp f.src)] : Array (Nat × Operand)).map fun (i, x) => (i, ρ x)).toList = some #[f.val] := by
    rw [hz1]
    simp [Instr.fill, hρ, hv]
    rw [show Array.range 1 = #[0] from rfl, show ∀ g : Nat → Value, Array.map g #[0] = #[g 0] from fun g => by simp]
    rfl
  simp only [hop, Sem.run_bind, run_buildSlice w t f.ty 1 _ #[f.val] i0 z hu hi0 hz0 (by rw [hz1]; omega) (by rw [hz1]; omega) hf, Result.andThen_ok]
  rfl
theorem infoB : (Tryz.prog.info? 4).map (fun i => (i.zero, i.size, i.bytes)) = some (some (.bool false), 1, 1) := by kernel_rfl

theorem results_tmp4 {fn : Func} {t u x y : Tmp} (h : fn.results = #[.tmp t, .tmp u, .tmp x, .tmp y]) (tmps : Array Value) (P : Program) (w : World) : (results fn tmps).run P w = .ok (.tuple #[tmps.getD t undef, tmps.getD u undef, tmps.getD x undef, tmps.getD y undef]) w := by
  simp [results, h]
theorem lit1 {P : Program} {ops : Array Oper} {C : World → Prop} {K : Act → Prop} {o : Oper} {r : List Oper} {a : Act} (h : wpQuiet P ops C (fun a' => Sg.wpL P ops C K r a') [o] a) : Sg.wpL P ops C K (o :: r) a := h
theorem end1 {P : Program} {ops : Array Oper} {C : World → Prop} {K : Act → Prop} {a : Act} (h : K a) : Sg.wpL P ops C K [] a := h
def tbl (L : List Cel) (n : Nat) : LL := (List.range n).map fun i => (cel L i).T.take 70
theorem tbl_at (L : List Cel) {n i : Nat} (hi : i < n) : lat (tbl L n) i = (cel L i).T.take 70 := by
  unfold lat tbl
  rw [List.getD_eq_getElem?_getD, List.getElem?_map, List.getElem?_range hi]
  rfl
structure Bld (B : Nat) (w' : World) (vs vr vt vl : Value) (S : Sts) (T : LL) (V : List Bool) (n : Nat) : Prop where
  st : Stl w' vs S
  rf : Rfl w' vr S
  tb : RdL w' vt T
  lv : Rd KB w' vl V
  s : S.length = n
  t : T.length = n
  v : V.length = n
  few : n ≤ 8
  ok : ∀ i, i < n → (lat T i).length ≤ 70
  den : ∀ i, i < n → (sat S i).2 = 0
  own : Ow KB w' B 4 vl V
  keep : ∀ W', Only (fun k => vl.ownBlock = some k) w' W' → Stl W' vs S ∧ RdL W' vt T
def BldPost (w : World) (e : Ending) (w' : World) : Prop := ∃ vs vr vt vl S T V n, e = .returned (.tuple #[vs, vr, vt, vl]) ∧ Bld w.heap.size w' vs vr vt vl S T V n ∧ Below w.heap.size w w'

structure OI (w : World) (L : List Cel) (k : Nat) (o1 o2 o3 o4 : Value) (ps rs : List Nat) (hs : List Hd) (bs : List Bool) (S : Sts) (wr : World) : Prop where
  bi : B4I w k ps rs S o1 ps o2 rs o3 hs o4 bs wr
  l1 : ps.length = k
  l2 : rs.length = k
  l3 : hs.length = k
  l4 : bs.length = k
  l5 : S.length = k
  tb : ∀ i, i < k → Rd K5 w (sl (hs.getD i zh)) ((cel L i).T.take 70)
  dz : ∀ i : Nat, i < k → (sat S i).2 = 0
theorem sat_more {S : Sts} {k : Nat} {x : Abs × Int} (h : S.length = k) (i : Nat) (hi : i < k + 1) : sat (S ++ [x]) i = if i < k then sat S i else x := by
  unfold sat
  rw [Int.toNat_natCast, List.getD_eq_getElem?_getD, List.getElem?_append, h]
  split
  · rw [List.getD_eq_getElem?_getD]
  · obtain rfl : i = k := by omega
    simp
theorem OI.next {w wr : World} {L : List Cel} {k : Nat} {o1 o2 o3 o4 : Value} {ps rs : List Nat} {hs : List Hd} {bs : List Bool} {S : Sts} {w0 : World} {q1 q2 q3 q4 : Value} {s r : Nat} {h : Hd} {b : Bool} {A : Abs} (I : OI w L k o1 o2 o3 o4 ps rs hs bs S w0)
    (bi : B4I w (k + 1) (ps ++ [s]) (rs ++ [r]) (S ++ [(A, 0)]) q1 (ps ++ [s]) q2 (rs ++ [r]) q3 (hs ++ [h]) q4 (bs ++ [b]) wr) (t : Rd K5 w (sl h) ((cel L k).T.take 70)) : OI w L (k + 1) q1 q2 q3 q4 (ps ++ [s]) (rs ++ [r]) (hs ++ [h]) (bs ++ [b]) (S ++ [(A, 0)]) wr := by
  refine ⟨bi, by simp [I.l1], by simp [I.l2], by simp [I.l3], by simp [I.l4], by simp [I.l5], fun i hi => ?_, fun i hi => ?_⟩
  · rw [List.getD_eq_getElem?_getD, List.getElem?_append, I.l3]
    split
    · rename_i hk
      rw [← List.getD_eq_getElem?_getD]
      exact I.tb i hk
    · obtain rfl : i = k := by omega
      simpa using t
  · rw [sat_more I.l5 i hi]
    split
    · rename_i hk
      exact I.dz i hk
    · rfl
theorem OI.fin {w wr : World} {L : List Cel} {k : Nat} {o1 o2 o3 o4 : Value} {ps rs : List Nat} {hs : List Hd} {bs : List Bool} {S : Sts} (I : OI w L k o1 o2 o3 o4 ps rs hs bs S wr) (h8 : k ≤ 8) : BldPost w (.returned (.tuple #[o1, o2, o3, o4])) wr := by
  have tl : (tbl L k).length = k := by unfold tbl; simp
  refine ⟨o1, o2, o3, o4, S, tbl L k, bs, k, rfl, ⟨⟨ps, I.bi.w1.rd, by rw [I.l1, I.l5], fun i hi => ?_⟩, ⟨rs, I.bi.w2.rd, by rw [I.l2, I.l5], fun i hi => ?_⟩, rdl_of I.bi.w3.rd (by rw [I.l3, tl]) fun i hi => ?_, I.bi.w4.rd, I.l5, tl, I.l4, h8, fun i hi => ?_, I.dz, I.bi.w4, fun W' ho => ?_⟩, I.bi.bel⟩
  · rw [I.l5] at hi
    obtain ⟨F, h, _⟩ := I.bi.st i hi
    refine ⟨F, ?_⟩
    rw [I.dz i hi]
    exact h
  · rw [I.l5] at hi
    have h := I.bi.rf i hi
    unfold Hrf
    rw [I.dz i hi]
    exact rs_mono h nofun
  · rw [tl] at hi
    rw [tbl_at L hi]
    exact (I.tb i hi).below I.bi.bel
  · rw [tbl_at L hi]
    rw [List.length_take]
    omega
  · have bb : Below w.heap.size w W' := I.bi.bel.trans (ho.below I.bi.bel.size fun k e => (World.ownsRow.lt I.bi.w4 k e).1)
    refine ⟨⟨ps, (ow_only I.bi.w1 (fun k e => ow_apart I.bi.w1 I.bi.w4 (by decide) k e) ho).rd, by rw [I.l1, I.l5], fun i hi => ?_⟩, rdl_of (ow_only I.bi.w3 (fun k e => ow_apart I.bi.w3 I.bi.w4 (by decide) k e) ho).rd (by rw [I.l3, tl]) fun i hi => ?_⟩
    · rw [I.l5] at hi
      obtain ⟨F, h, d⟩ := I.bi.st i hi
      refine ⟨F, ?_⟩
      rw [I.dz i hi]
      exact h.only (fun k hk e => d k hk (.inr (.inr (.inr e)))) ho
    · rw [tl] at hi
      rw [tbl_at L hi]
      exact (I.tb i hi).below bb

/-- What region 9 reads. -/
structure JC (r b o : Nat) (lv : Value) (n p : Int) (u : Value) (W : World) : Prop where
  r : W.cell? ⟨r, 0, none⟩ = some lv
  n : W.cell? ⟨b, o, none⟩ = some (.int .i64 n)
  p : W.cell? ⟨b, o + 1, none⟩ = some (.int .i64 p)
  u : W.cell? ⟨b, o + 2, none⟩ = some u

set_option maxHeartbeats 1000000 in
theorem build_any {w : World} {v : Value} {L : List Cel} (H : Cls w v L) : Calls Tryz.prog 5 #[v] w (BldPost w) := by
  have FL := Lib.hid H.file
  have TB := Lib.hid H.tab
  obtain ⟨a, cap, rfl, _, hm, hA⟩ := H.rd
  have HA := Lib.hid hA
  unfold maxLen at hm
  clear hA H
  generalize hn : L.length = n at *
  have HN := Lib.hid hn
  have FIN : Hid (∀ k o1 o2 o3 o4 ps rs hs bs S wr, OI w L k o1 o2 o3 o4 ps rs hs bs S wr → k ≤ n → k ≤ 8 → BldPost w (.returned (.tuple #[o1, o2, o3, o4])) wr) := fun k o1 o2 o3 o4 ps rs hs bs S wr I _ h2 => I.fin h2
  clear hn
  have I0 := Lib.hid (B4I.start w)
  go_enter Tryz.func5, Tryz.ntmps5
  go_wp2
  go_loopw [10, 6, 7, 8, 9] (fun i o1 o2 o3 o4 wr => ∃ (k : Nat) (ps rs : List Nat) (hs : List Hd) (bs : List Bool) (S : Sts) (p1 p2 p3 p4 : Value), k ≤ n ∧ k ≤ 8 ∧ i = .int .i64 k ∧ p1 = o1 ∧ p2 = o2 ∧ p3 = o3 ∧ p4 = o4 ∧ Hid (OI w L k o1 o2 o3 o4 ps rs hs bs S wr)) (fun i _ _ _ _ _ => n - (intOf i).toNat)
  case atStart => exact ⟨0, [], [], [], [], [], _, _, _, _, Nat.zero_le _, Nat.zero_le _, rfl, rfl, rfl, rfl, rfl, ⟨by simpa using I0.out, rfl, rfl, rfl, rfl, rfl, fun i hi => by omega, fun i hi => by omega⟩⟩
  case round =>
    obtain ⟨k, ps, rs, hs, bs, S, o1, o2, o3, o4, hk, hk8, rfl, rfl, rfl, rfl, rfl, I⟩ := hrel
    clear I0
    by_cases hlt : k < n ∧ k < 8
    · obtain ⟨hlt, h8⟩ := hlt
      obtain ⟨b, off, rfl, A1⟩ := HA.out (by omega)
      obtain ⟨c0, c1, c2⟩ := at_cel A1 (i := k) (by have := HN.out; omega)
      have C0 := Lib.hid c0
      have C1 := Lib.hid c1
      have C2 := Lib.hid c2
      have FK := Lib.hid (FL.out k hlt)
      have TK := Lib.hid (TB.out k hlt)
      have lb : b < w.heap.size := World.block_lt_of_cell? _ _ c0
      clear A1 c0 c1 c2 FIN
      generalize hcl : cel L k = c at *
      have HC := Lib.hid hcl
      clear hcl
      obtain ⟨⟨fa, fn, fc⟩, ⟨ta, tn, tc⟩, lv, ⟨sa, sn, sc⟩, F, T⟩ := c
      simp only [sl] at C0 C1 C2 FK TK
      go_upto_region 5 with fail
      have x0 := Sd.cell_by ((I.out.bi.bel.cell lb).trans C0.out)
      refine Sd.start [(false, 1), (false, 2), (false, 3), (false, 4), (false, 5), (true, 0), (true, 6), (false, 7), (false, 8)] (by kernel_rfl) (by kernel_rfl) (by kernel_rfl) ?_
      dsimp only [Sd.picks, List.getElem?_cons_succ, List.getElem?_cons_zero]
      repeat (refine Sd.lit ?_; quiet_step (fail); refine wpQuiet_nil ?_)
      clear x0
      have Bd := Lib.hid ((Below.refl wr.heap.size wr).drew)
      have I1 := Lib.hid (I.out.bi.below Bd.out)
      generalize hwd : wr.drew = wd at *
      have hz : wd.heap.size = wr.heap.size := by rw [← hwd]; rfl
      have HZ := Lib.hid hz
      clear hwd hz
      refine Sd.call (by rfl) (fun K hK => ?_)
      go_simp
      refine (new_any _).mono ?_
      rintro e w1 ⟨rfl, rfl⟩
      have N1 := Lib.hid (new_st wd)
      have B1 := Lib.hid (below_new wd (.cells #[.map none, .int .i64 0] 97))
      refine hK _ _ (Sd.Cl.of (by have := B1.out; rw [HZ.out] at this; exact Bd.out.trans this)) ?_
      clear hK K
      have hz1 : (wd.alloc (.cells #[.map none, .int .i64 0] 97)).heap.size = wd.heap.size + 1 := by simp
      have HZ1 := Lib.hid hz1
      clear hz1
      generalize hgs : wd.heap.size = gs at *
      have HGS := Lib.hid hgs
      clear hgs
      generalize (wd.alloc (.cells #[.map none, .int .i64 0] 97)) = W1 at *
      have BW1 := Lib.hid (I1.out.bel.trans ((show Below wd.heap.size wd W1 by rw [HGS.out]; exact B1.out).mono I1.out.bel.size))
      have RS := Lib.hid (rstore_any (w := W1) (B := w.heap.size) (FK.out.below BW1.out) BW1.out.size)
      unfold RstPost ptr at RS
      refine Sd.call (by rfl) (fun K hK => ?_)
      go_simp
      refine RS.out.mono ?_
      rintro e w2 ⟨r, A, rfl, rs2, hr2, b2⟩
      refine hK _ _ (Sd.Cl.of (by
        have h1 := HZ.out; have h2 := HGS.out; have h3 := HZ1.out
        refine Bd.out.trans ?_
        rw [← h1]
        exact B1.out.trans (b2.mono (by omega)))) ?_
      clear hK K
      repeat (refine Sd.lit ?_; quiet_step (fail); refine wpQuiet_nil ?_)
      have QL : Hid (∀ x, Q4 o1 o2 o3 o4 x → w.heap.size ≤ x ∧ x < wd.heap.size) := Lib.hid I1.out.low
      have J0 : Hid (J4I wd (Q4 o1 o2 o3 o4) gs r A 0 (fun x => x = gs) w2) := Lib.hid ⟨by rw [List.take_zero]; exact N1.out.below b2, rs_mono rs2 (fun x _ g => by
          have h2 := HGS.out; have h3 := HZ1.out; have h4 := I1.out.bel.size
          rcases g with g | g
          · have := QL.out x g; omega
          · subst g; omega), fun x hx => by have := HGS.out; omega, by
          have h2 := HGS.out; have h3 := HZ1.out
          rw [h2]
          exact B1.out.trans (b2.mono (by omega))⟩
      clear RS N1 rs2 b2 FK Bd B1
      refine Sd.done ?_
      go_wp2
      go_loopw [13] (fun i wr' => ∃ (j : Nat) (G : Nat → Prop), j ≤ A.length ∧ i = .int .i64 j ∧ Hid (J4I wd (Q4 o1 o2 o3 o4) gs r A j G wr')) (fun i _ => A.length - (intOf i).toNat)
      case atStart => exact ⟨0, _, Nat.zero_le _, rfl, J0⟩
      case round =>
        obtain ⟨j, G, hj, rfl, J⟩ := hrel
        clear J0
        obtain ⟨vL, Ln, ⟨row, off1, list, ok1⟩, eL⟩ := J.out.rs
        obtain ⟨la, lc, rfl, _, hmL, hL⟩ := list.rd
        have lenL : Ln.length = A.length := by rw [← eL, List.length_map]
        have ROW := Lib.hid row
        have c3 := row_cell row 0
        have OKA : Hid (OkA A) := Lib.hid (by rw [← eL]; exact ok1)
        unfold maxLen at hmL
        clear row ok1
        by_cases hjl : j < A.length
        · obtain ⟨b1, of1, rfl, A2⟩ := hL (by omega)
          have LI := Lib.hid list
          obtain ⟨e, he⟩ : ∃ e : Ent, Ln[j]? = some e := ⟨_, List.getElem?_eq_getElem (by omega)⟩
          obtain ⟨d0, d1, d2⟩ := at3 A2 he
          have he' : A[j]? = some (e.n, e.p, e.l) := by rw [← eL, List.getElem?_map, he]; rfl
          have AN := Lib.hid (add_next OKA.out he')
          have RE := Lib.hid (list.file e (List.mem_of_getElem? he))
          have OE := Lib.hid (OKA.out.ok _ (List.mem_of_getElem? he'))
          have NB : Hid (¬ G b1) := Lib.hid (fun g => list.off (by omega) b1 rfl (.inl (.inr g)))
          have NR : Hid (¬ G r) := Lib.hid (fun g => off1 (.inr g))
          clear list hL A2 he he' off1 eL
          obtain ⟨en, ep, ea, ec, el⟩ := e
          unfold Ent.sl at d2 RE
          simp only at d0 d1 d2 RE OE AN
          rw [lenL] at c3
          generalize hq : A.length = q at *
          generalize hel : el.length = eq at *
          have D0 := Lib.hid d0
          have D1 := Lib.hid d1
          have D2 := Lib.hid d2
          go_upto_region 9 with fail
          have CC : JC r b1 (of1 + j * 3) (.slice (some ⟨b1, of1, none⟩) q lc) en ep (.slice ea eq ec) wr.drew := ⟨c3, D0.out, D1.out, D2.out⟩
          have x0 := Sc.cell_in (C := JC r b1 (of1 + j * 3) (.slice (some ⟨b1, of1, none⟩) q lc) en ep (.slice ea eq ec)) (a := ⟨r, 0, none⟩) (fun W' h => h.r)
          have x1 := Sc.cell_in (C := JC r b1 (of1 + j * 3) (.slice (some ⟨b1, of1, none⟩) q lc) en ep (.slice ea eq ec)) (a := ⟨b1, of1 + j * 3, none⟩) (fun W' h => h.n)
          have x2 := Sc.cell_in (C := JC r b1 (of1 + j * 3) (.slice (some ⟨b1, of1, none⟩) q lc) en ep (.slice ea eq ec)) (a := ⟨b1, of1 + j * 3 + 1, none⟩) (fun W' h => h.p)
          have x3 := Sc.cell_in (C := JC r b1 (of1 + j * 3) (.slice (some ⟨b1, of1, none⟩) q lc) en ep (.slice ea eq ec)) (a := ⟨b1, of1 + j * 3 + 2, none⟩) (fun W' h => h.u)
          have x4 := Sc.cell_in (C := JC r b1 (of1 + j * 3) (.slice (some ⟨b1, of1, none⟩) q lc) en ep (.slice ea eq ec)) (a := ⟨b1, of1 + j * 3 + 1 + 1, none⟩) (fun W' h => h.u)
          have ne : Nonempty (Sc.In (JC r b1 (of1 + j * 3) (.slice (some ⟨b1, of1, none⟩) q lc) en ep (.slice ea eq ec))) := ⟨⟨_, CC⟩⟩
          have J1 := Lib.hid (J.out.below (Below.refl wr.heap.size wr).drew)
          have AD := Lib.hid (add_any J1.out.st en ep (.slice ea eq ec) el RE.out OE.out)
          unfold file AddPost at AD
          rw [AN.out.1, AN.out.2] at AD
          refine Sc.start (JC r b1 (of1 + j * 3) (.slice (some ⟨b1, of1, none⟩) q lc) en ep (.slice ea eq ec)) [(false, 0), (false, 1), (false, 2), (false, 3), (false, 4), (false, 5), (false, 6), (false, 7), (false, 8), (false, 9), (false, 10), (false, 11), (false, 12), (false, 13), (false, 14), (false, 15), (false, 16), (true, 17)] (by kernel_rfl) (by kernel_rfl) (by kernel_rfl) CC ?_
          dsimp only [Sd.picks, List.getElem?_cons_succ, List.getElem?_cons_zero]
          repeat (refine Sd.lit ?_; quiet_step (fail); refine wpQuiet_nil ?_)
          clear x0 x1 x2 x3 x4 c3 D0 D1 D2 d0 d1 d2 J
          generalize wr.drew = Wd at *
          refine Sd.call (by rfl) (fun K hK => ?_)
          go_simp
          refine AD.out.mono ?_
          rintro e w5 ⟨rfl, st5, o5⟩
          refine hK _ _ (Sc.Cl.of ⟨o5.cell CC.r NR.out, o5.cell CC.n NB.out, o5.cell CC.p NB.out, o5.cell CC.u NB.out⟩) ?_
          have J5 := Lib.hid (J1.out.step st5 o5)
          clear hK K st5 o5 AD CC J1 ROW
          refine Sd.done ?_
          go_wp2
          go_roundw
          case rel => exact ⟨j + 1, _, by omega, by go_num, J5⟩
          case measure => simp [intOf]; omega
        · obtain rfl : j = A.length := by omega
          rw [lenL] at c3
          have DN := Lib.hid (J.out.done (fun x g => (QL.out x g).2))
          have I5 := Lib.hid (I1.out.below J.out.bel)
          have I6 := Lib.hid (I5.out.more I.out.l1 I.out.l2 I.out.l5 DN.out.1 DN.out.2)
          have ct := (I6.out.bel.cell (World.block_lt_of_cell? _ _ C1.out)).trans C1.out
          have CV := Lib.hid ((I6.out.bel.cell (World.block_lt_of_cell? _ _ C2.out)).trans C2.out)
          clear J DN I5 list ROW
          have HL := Lib.hid I.out
          have TT1 : Hid (Rd K5 w (.slice ta tn tc) (cel L k).T) := Lib.hid (by rw [HC.out]; exact TK.out)
          clear I I1 TK QL
          obtain ⟨ta', tc', et, ⟨g1, _⟩, g2, g3⟩ := TT1.out
          injection et with e1 e2 e3
          subst e1 e2 e3
          unfold maxLen at g2
          by_cases h70 : 70 < (cel L k).T.length
          case' pos =>
            obtain ⟨b', off', rfl, _⟩ := g3 (by omega)
            have TT : Hid (∃ h : Hd, Value.slice (some ⟨b', off', none⟩) 70 tc = sl h ∧ Rd K5 w (sl h) ((cel L k).T.take 70)) := Lib.hid ⟨(some ⟨b', off', none⟩, 70, tc), rfl, Ck.rd_cut TT1.out rfl (k := 70) (by omega) (by omega)⟩
            clear g3 TT1
            generalize (cel L k).T.length = m at *
            have hh : (70 : Int) < m := by omega
            go_upto_region 13 with fail
            generalize (Value.slice (some ⟨b', off', none⟩) 70 tc) = tv at *
          case' neg =>
            have TT : Hid (∃ h : Hd, Value.slice ta (cel L k).T.length tc = sl h ∧ Rd K5 w (sl h) ((cel L k).T.take 70)) := Lib.hid ⟨(ta, _, tc), rfl, by rw [List.take_of_length_le (by omega)]; exact TT1.out⟩
            clear g3 TT1
            generalize (cel L k).T.length = m at *
            have hh : ¬ (70 : Int) < m := by omega
            go_upto_region 13 with fail
            generalize (Value.slice ta m tc) = tv at *
          all_goals
            obtain ⟨h, rfl, TR⟩ := TT.out
            have TR' := Lib.hid TR
            clear TT TR ct
            have x0 := Sc.cell_in (C := Only (Q4 o1 o2 o3 o4) wr) (a := ⟨b, off + k * 4 + 2, none⟩) (fun W' h => h.cell CV.out (fun g => by have := (I6.out.low _ g).1; simp only at this; omega))
            have ne : Nonempty (Sc.In (Only (Q4 o1 o2 o3 o4) wr)) := ⟨⟨_, Only.refl _ _⟩⟩
            refine Sg.start (Only (Q4 o1 o2 o3 o4) wr) [0, 1, 4, 5, 8, 9, 12, 13, 14, 15, 16, 17] [(2, 2), (1, 3), (2, 6), (1, 7), (2, 10), (1, 11), (2, 18), (1, 19), (0, 20), (0, 21), (0, 22), (0, 23)]
              [⟨2, 75, 74, .pointer (some ⟨gs, 0, none⟩), 38⟩, ⟨6, 79, 78, .pointer (some ⟨r, 0, none⟩), 42⟩, ⟨10, 83, 82, sl h, 59⟩, ⟨18, 91, 90, .bool lv, 4⟩]
              (by kernel_rfl) (by kernel_rfl) (by kernel_rfl) (by kernel_rfl) (by rfl) (by show ([75, 79, 83, 91] : List Nat).Nodup; decide)
              (by intro f hf f' hf'; simp only [List.mem_cons, List.not_mem_nil, or_false] at hf hf'; rcases hf with rfl | rfl | rfl | rfl <;> rcases hf' with rfl | rfl | rfl | rfl <;> simp)
              (by intro f hf f' hf'; simp only [List.mem_cons, List.not_mem_nil, or_false] at hf hf'; rcases hf with rfl | rfl | rfl | rfl <;> rcases hf' with rfl | rfl | rfl | rfl <;> simp)
              (by
                intro f hf
                simp only [List.mem_cons, List.not_mem_nil, or_false] at hf
                rcases hf with rfl | rfl | rfl | rfl
                · exact flOk_of _ _ _ _ _ rfl rfl rfl rfl Tryz.underlying24 infoN rfl
                · exact flOk_of _ _ _ _ _ rfl rfl rfl rfl Tryz.underlying25 infoM rfl
                · exact flOk_of _ _ _ _ _ rfl rfl rfl rfl Tryz.underlying26 infoS rfl
                · exact flOk_of _ _ _ _ _ rfl rfl rfl rfl Tryz.underlying27 infoB rfl)
              (Only.of_below ((Below.refl _ _).drew)) (fun W' h => h.size) (fun W' o h => h.then ((Below.refl _ _).alloc (Nat.le_refl _) o)) ?_
            dsimp only [Sg.picksL, List.getElem?_cons_succ, List.getElem?_cons_zero]
            repeat (refine lit1 ?_; quiet_step (fail); refine wpQuiet_nil ?_)
            refine end1 ⟨fun f hf => by simp only [List.mem_cons, List.not_mem_nil, or_false] at hf; rcases hf with rfl | rfl | rfl | rfl <;> rfl, ?_⟩
            dsimp only [Sg.picks, List.getElem?_cons_succ, List.getElem?_cons_zero]
            clear x0
            have QL := Lib.hid I6.out.low
            have I10 := Lib.hid (I6.out.below ((Below.refl wr.heap.size wr).drew))
            clear I6
            refine Sg.meet (fun g11 wm hb hc row n11 hH hL => ?_)
            have M11 := Lib.hid (I10.out.below hb)
            have R11 := Lib.hid row
            clear hb hc row hH hL
            go_simp
            refine Sg.call (fun xs w2 hb hc => ⟨by rfl, fun K hK => ?_⟩)
            have P11 := Lib.hid (M11.out.below hb)
            have row := (hb.block _ (lt_of_block R11.out)).trans R11.out
            have oc : Only (Q4 o1 o2 o3 o4) wr w2 := by obtain ⟨p, rfl⟩ := hc; exact p.ok
            clear hb hc M11 R11 I10
            simp only [Sg.fill, List.foldl_cons, List.foldl_nil]
            refine wp_push_at (K := KN) Tryz.underlying24 infoN rfl (by omega) _ _ rfl w.heap.size _ _ rfl P11.out.w1 ⟨g11, 0, none⟩ gs (by rfl) (fun j u hu => by
              match j, hu with
              | 0, hu =>
                simp [KN, ptr] at hu
                subst hu
                rw [Ck.addr_zero]
                exact row_cell row 0
              | j + 1, hu => simp [KN] at hu) (by have := HL.out.l1; omega) P11.out.bel.size ?_
            intro v11 w3 own gr hq
            have oc3 : Only (Q4 o1 o2 o3 o4) wr w3 := oc.trans (only_grown gr) fun x _ e => .inl e
            refine hK _ _ (Sc.Cl.of oc3) gr.size (fun g hg hl => gr.block g hl fun e => by have := (QL.out g (.inl e.symm)).2; omega) ?_
            have I11 := Lib.hid (P11.out.push1 own gr hq)
            clear hK K own gr hq oc oc3 row P11
            refine Sg.meet (fun g12 wm hb hc row n12 hH hL => ?_)
            have M12 := Lib.hid (I11.out.below hb)
            have R12 := Lib.hid row
            clear hb hc row hH hL
            go_simp
            refine Sg.call (fun xs w2 hb hc => ⟨by rfl, fun K hK => ?_⟩)
            have P12 := Lib.hid (M12.out.below hb)
            have row := (hb.block _ (lt_of_block R12.out)).trans R12.out
            have oc : Only (Q4 o1 o2 o3 o4) wr w2 := by obtain ⟨p, rfl⟩ := hc; exact p.ok
            clear hb hc M12 R12 I11
            simp only [Sg.fill, List.foldl_cons, List.foldl_nil]
            refine wp_push_at (K := KN) Tryz.underlying25 infoM rfl (by omega) _ _ rfl w.heap.size _ _ rfl P12.out.w2 ⟨g12, 0, none⟩ r (by rfl) (fun j u hu => by
              match j, hu with
              | 0, hu =>
                simp [KN, ptr] at hu
                subst hu
                rw [Ck.addr_zero]
                exact row_cell row 0
              | j + 1, hu => simp [KN] at hu) (by have := HL.out.l2; omega) P12.out.bel.size ?_
            intro v12 w3 own gr hq
            have oc3 : Only (Q4 o1 o2 o3 o4) wr w3 := oc.trans (only_grown gr) fun x _ e => .inr (.inl e)
            refine hK _ _ (Sc.Cl.of oc3) gr.size (fun g hg hl => gr.block g hl fun e => by have := (QL.out g (.inr (.inl e.symm))).2; omega) ?_
            have I12 := Lib.hid (P12.out.push2 own gr hq)
            clear hK K own gr hq oc oc3 row P12
            refine Sg.meet (fun g13 wm hb hc row n13 hH hL => ?_)
            have M13 := Lib.hid (I12.out.below hb)
            have R13 := Lib.hid row
            clear hb hc row hH hL
            go_simp
            refine Sg.call (fun xs w2 hb hc => ⟨by rfl, fun K hK => ?_⟩)
            have P13 := Lib.hid (M13.out.below hb)
            have row := (hb.block _ (lt_of_block R13.out)).trans R13.out
            have oc : Only (Q4 o1 o2 o3 o4) wr w2 := by obtain ⟨p, rfl⟩ := hc; exact p.ok
            clear hb hc M13 R13 I12
            simp only [Sg.fill, List.foldl_cons, List.foldl_nil]
            refine wp_push_at (K := KS) Tryz.underlying26 infoS rfl (by omega) _ _ rfl w.heap.size _ _ rfl P13.out.w3 ⟨g13, 0, none⟩ h (by rfl) (fun j u hu => by
              match j, hu with
              | 0, hu =>
                simp [KS] at hu
                subst hu
                rw [Ck.addr_zero]
                exact row_cell row 0
              | j + 1, hu => simp [KS] at hu) (by have := HL.out.l3; omega) P13.out.bel.size ?_
            intro v13 w3 own gr hq
            have oc3 : Only (Q4 o1 o2 o3 o4) wr w3 := oc.trans (only_grown gr) fun x _ e => .inr (.inr (.inl e))
            refine hK _ _ (Sc.Cl.of oc3) gr.size (fun g hg hl => gr.block g hl fun e => by have := (QL.out g (.inr (.inr (.inl e.symm)))).2; omega) ?_
            have I13 := Lib.hid (P13.out.push3 own gr hq)
            clear hK K own gr hq oc oc3 row P13
            refine Sg.meet (fun g14 wm hb hc row n14 hH hL => ?_)
            have M14 := Lib.hid (I13.out.below hb)
            have R14 := Lib.hid row
            clear hb hc row hH hL
            go_simp
            refine Sg.call (fun xs w2 hb hc => ⟨by rfl, fun K hK => ?_⟩)
            have P14 := Lib.hid (M14.out.below hb)
            have row := (hb.block _ (lt_of_block R14.out)).trans R14.out
            have oc : Only (Q4 o1 o2 o3 o4) wr w2 := by obtain ⟨p, rfl⟩ := hc; exact p.ok
            clear hb hc M14 R14 I13
            simp only [Sg.fill, List.foldl_nil]
            refine wp_push_at (K := KB) Tryz.underlying27 infoB rfl (by omega) _ _ rfl w.heap.size _ _ rfl P14.out.w4 ⟨g14, 0, none⟩ lv (by rfl) (fun j u hu => by
              match j, hu with
              | 0, hu =>
                simp [KB] at hu
                subst hu
                rw [Ck.addr_zero]
                exact row_cell row 0
              | j + 1, hu => simp [KB] at hu) (by have := HL.out.l4; omega) P14.out.bel.size ?_
            intro v14 w3 own gr hq
            have oc3 : Only (Q4 o1 o2 o3 o4) wr w3 := oc.trans (only_grown gr) fun x _ e => .inr (.inr (.inr e))
            refine hK _ _ (Sc.Cl.of oc3) gr.size (fun g hg hl => gr.block g hl fun e => by have := (QL.out g (.inr (.inr (.inr e.symm)))).2; omega) ?_
            have I14 := Lib.hid (P14.out.push4 own gr hq)
            clear hK K own gr hq oc oc3 row P14
            repeat (refine Sg.lit (fun xs => ?_); simp only [Sg.fill, List.foldl_nil]; quiet_step (fail); refine wpQuiet_nil ?_)
            refine Sg.done (fun wB hb hc => ?_)
            have N := Lib.hid (HL.out.next (I14.out.below hb) TR'.out)
            clear hb hc I14 TR'
            go_wp2
            go_roundw
            case rel => exact ⟨k + 1, _, _, _, _, _, _, _, _, _, by omega, by omega, by go_num, rfl, rfl, rfl, rfl, N⟩
            case measure => simp [intOf]; omega
    · have E := Lib.hid (FIN.out k _ _ _ _ _ _ _ _ _ _ I.out hk hk8)
      by_cases q : k < n
      · have q8 : ¬ k < 8 := fun h => hlt ⟨q, h⟩
        clear hlt
        go_wp2
        (try simp only [Exit.inBlock, Exit.then]); refine bodyPost_ret (results_tmp4 rfl _ _ _) rfl ?_
        exact E.out
      · clear hlt
        go_wp2
        (try simp only [Exit.inBlock, Exit.then]); refine bodyPost_ret (results_tmp4 rfl _ _ _) rfl ?_
        exact E.out

end Go.Proofs.YtilacdjekdngkaaGreatDoor.Pa

/- part.sent: who sends in a slot, and which byte. -/
namespace Go.Proofs.YtilacdjekdngkaaGreatDoor.Pa
open Go.RowKit Go.Maps
open Go.Proofs.YtilacdjekdngkaaGreatDoor.Fs (Abs St Only Fx Wf gB gV GetPost get_st OkA)
open Go.Proofs.YtilacdjekdngkaaGreatDoor.Rw (Rd Ow At)
open Go.Proofs.YtilacdjekdngkaaGreatDoor.Ro (E5 z5 eat K5 at5 okE okB ok_yes ent good_any okE_bounds)
open Go.Proofs.YtilacdjekdngkaaGreatDoor.Ck (LL lat sN sE tE RdL who_cases sender_any WhoPost snd snd_is)
open Go.Proofs.YtilacdjekdngkaaGreatDoor.Fl (R4 z4 rec4 okR arr4 row_cell row_frozen sto4 sto4_row sto4_other sto4_below sto4_size)
set_option maxRecDepth 100000
attribute [local irreducible] Sd.wpSd wpQuiet Sf.wpSf

/-- Of who sends, where tables fit. -/
theorem sender_is {T : LL} (ok : tE T = 0) {s : Int} (h : 0 ≤ sN s T) : ∃ n : Nat, sN s T = n ∧ n < T.length ∧ sE s T ∈ lat T n ∧ okE (sE s T) ∧ (sE s T).1 = 1 ∧ (sE s T).2.1 = s := by
  rcases who_cases (snd s) T with ⟨n, x, hn, hx, hp, _, e1, e2⟩ | ⟨_, e1, _⟩
  · have e1' : sN s T = n := e1
    have e2' : sE s T = x := e2
    obtain ⟨k1, k2⟩ := snd_is hp
    exact ⟨n, e1', hn, by rw [e2']; exact hx, by rw [e2']; exact (tab_each ok hn x hx).1, by rw [e2']; exact k1, by rw [e2']; exact k2⟩
  · have e1' : sN s T = -1 := e1
    omega
theorem gV_ok {A : Abs} (hA : OkA A) (f r : Int) : okR (gV A f r) := by
  unfold gV
  split
  · exact Fl.okR_z
  · rename_i e he
    split
    · exact Fl.okR_at (hA.find he).2.2.1 _
    · exact Fl.okR_z
theorem gV_no {A : Abs} {f r : Int} (h : gB A f r = false) : gV A f r = z4 := by
  unfold gB at h
  unfold gV
  split
  · rfl
  · rename_i e he
    rw [he] at h
    simp only [decide_eq_false_iff_not] at h
    rw [if_neg h]
theorem get_has {w : World} {s : Nat} {x : Abs × Int} (H : Has w s x) {n : Int} (hn : Wf n) (r : Int) : Calls Tryz.prog 19 #[.pointer (some ⟨s, 0, none⟩), .int .i64 n, .int .i64 r] w (GetPost w (gV x.1 n r) (gB x.1 n r)) := by
  obtain ⟨F, S⟩ := H
  exact get_st S hn r
theorem arr4_at (v : R4) {j : Nat} (hj : j < 4) : (arr4 v)[j]? = some (.int .u8 (rb v j)) := by
  obtain rfl | rfl | rfl | rfl : j = 0 ∨ j = 1 ∨ j = 2 ∨ j = 3 := by omega
  all_goals rfl
def SentPost (w : World) (n x : Int) (b : Bool) (e : Ending) (w' : World) : Prop := e = .returned (.tuple #[.int .i64 n, .int .u8 x, .bool b]) ∧ Below w.heap.size w w'
theorem sent_no {S : Sts} {T : LL} {V : List Bool} {s : Int} {w w' : World} (h : snB S T V s = false) (b : Below w.heap.size w w') : SentPost w (sbN S T V s) (sbX S T V s) (snB S T V s) (.returned (.tuple #[.int .i64 (-1), .int .u8 0, .bool false])) w' := by
  refine ⟨?_, b⟩
  unfold sbN sbX
  rw [h]
  rfl
theorem sent_yes {S : Sts} {T : LL} {V : List Bool} {s : Int} {w w' : World} (h : snB S T V s = true) (b : Below w.heap.size w w') : SentPost w (sbN S T V s) (sbX S T V s) (snB S T V s) (.returned (.tuple #[.int .i64 (sN s T), .int .u8 (snX S T s), .bool true])) w' := by
  refine ⟨?_, b⟩
  unfold sbN sbX
  rw [h]
  rfl

set_option maxHeartbeats 400000 in
theorem sent_any {w : World} {vs vt vl : Value} {S : Sts} {T : LL} {V : List Bool} (H : Ns w vs vt vl S T V) (s : Int) : Calls Tryz.prog 34 #[vs, vt, vl, .int .i64 s] w (SentPost w (sbN S T V s) (sbX S T V s) (snB S T V s)) := by
  have SA := Lib.hid (sender_any w vt T s H.tb)
  unfold WhoPost at SA
  have NO := Lib.hid (fun h w' b => sent_no (S := S) (T := T) (V := V) (s := s) (w := w) (w' := w') h b)
  have YES := Lib.hid (fun h w' b => sent_yes (S := S) (T := T) (V := V) (s := s) (w := w) (w' := w') h b)
  have HH := Lib.hid H
  obtain ⟨sa, cs, rfl, _⟩ := H.st.slice
  obtain ⟨al, cl, el, _⟩ := H.lv.slice
  rw [H.ll] at el
  subst el
  by_cases h0 : 0 ≤ sN s T
  · obtain ⟨n, hn, hlt, hmem, oke, hk1, hk2⟩ := sender_is H.ok h0
    have GA := Lib.hid (fun w => good_any w (sE s T))
    rw [ok_yes oke] at GA
    obtain ⟨f0, r0, y0⟩ := (okE_bounds oke).2.2
    have hnS : n < S.length := by rw [← H.lt]; exact hlt
    have hnV : n < V.length := by rw [H.ll]; exact hnS
    obtain ⟨b, off, cap, sp, e1, cS, hS⟩ := H.st.one hnS
    injection e1 with e1 _ e2
    subst e1 e2
    obtain ⟨bl, ol, el2, AL⟩ : ∃ bl ol, al = some ⟨bl, ol, none⟩ ∧ At KB w bl ol V := by
      obtain ⟨a', c', e', _, _, h3⟩ := H.lv
      injection e' with q1 _ q2
      subst q1
      exact h3 (by omega)
    subst el2
    have cV := atB AL hnV
    have SB : Hid (snB S T V s = (vat V n && gB (sat S n).1 (sE s T).2.2.1 (sE s T).2.2.2.1)) := Lib.hid (by
      unfold snB
      rw [hn, decide_eq_true (Int.natCast_nonneg n), Bool.true_and])
    have SX : Hid (snX S T s = rb (gV (sat S n).1 (sE s T).2.2.1 (sE s T).2.2.2.1) (sE s T).2.2.2.2) := Lib.hid (by
      unfold snX
      rw [hn])
    have ev : V.getD n false = vat V n := rfl
    rw [ev] at cV
    rw [hn] at YES SA
    have WF := Lib.hid (wf_of (n := (sE s T).2.2.1) (by omega))
    have SG : Hid (∀ W, Below w.heap.size w W → Calls Tryz.prog 19 #[.pointer (some ⟨sp, 0, none⟩), .int .i64 (sE s T).2.2.1, .int .i64 (sE s T).2.2.2.1] W (GetPost W (gV (sat S n).1 (sE s T).2.2.1 (sE s T).2.2.2.1) (gB (sat S n).1 (sE s T).2.2.1 (sE s T).2.2.2.1))) := Lib.hid (fun W b => get_has (hS.below b) WF.out _)
    have GN : Hid (gB (sat S n).1 (sE s T).2.2.1 (sE s T).2.2.2.1 = false → gV (sat S n).1 (sE s T).2.2.1 (sE s T).2.2.2.1 = z4) := Lib.hid gV_no
    clear hmem hS HH H h0 hk1 hk2 hlt oke hn
    unfold GetPost at SG
    generalize gV (sat S n).1 (sE s T).2.2.1 (sE s T).2.2.2.1 = gv at *
    generalize gB (sat S n).1 (sE s T).2.2.1 (sE s T).2.2.2.1 = gb at *
    unfold ent at SA GA
    generalize snX S T s = X at *
    generalize sE s T = x at *
    obtain ⟨q, s', f, r, y⟩ := x
    simp only at y0 SX SA GA SG WF GN
    obtain ⟨j, rfl⟩ : ∃ j : Nat, y = j := ⟨y.toNat, by omega⟩
    have hj : j < 4 := by omega
    clear f0 r0 y0
    generalize snB S T V s = a3 at *
    generalize sbN S T V s = a1 at *
    generalize sbX S T V s = a2 at *
    generalize S.length = N at *
    have lS : b < w.heap.size := World.block_lt_of_cell? _ _ cS
    have lV : bl < w.heap.size := World.block_lt_of_cell? _ _ cV
    have CS := Lib.hid cS
    have CV := Lib.hid cV
    clear cS AL hnV
    go_enter Tryz.func34, Tryz.ntmps34
    go_wp2_with fail
    refine SA.out.mono ?_
    rintro e w1 ⟨rfl, b1⟩
    have X1 : Hid ((w1.alloc (.cells #[.int .i64 q, .int .i64 s', .int .i64 f, .int .i64 r, .int .i64 (j : Int)] 75)).heap[w1.heap.size]? = some (.cells #[.int .i64 q, .int .i64 s', .int .i64 f, .int .i64 r, .int .i64 (j : Int)] 75 (0, 0))) := Lib.hid (heap_alloc_new w1 _)
    have B1 := Lib.hid (b1.alloc b1.size (.cells #[.int .i64 q, .int .i64 s', .int .i64 f, .int .i64 r, .int .i64 (j : Int)] 75))
    have G1 := b1.size
    go_upto_region 2 with fail
    generalize (w1.alloc (.cells #[.int .i64 q, .int .i64 s', .int .i64 f, .int .i64 r, .int .i64 (j : Int)] 75)) = W at *
    clear b1 SA
    generalize w1.heap.size = g at *
    have cV := (B1.out.cell lV).trans CV.out
    have x0 : W.cell? ⟨g, 0, none⟩ = some (.int .i64 q) := row_cell X1.out 0
    have x1 : W.cell? ⟨g, 1, none⟩ = some (.int .i64 s') := row_cell X1.out 1
    have x2 : W.cell? ⟨g, 2, none⟩ = some (.int .i64 f) := row_cell X1.out 2
    have x3 : W.cell? ⟨g, 3, none⟩ = some (.int .i64 r) := row_cell X1.out 3
    have x4 : W.cell? ⟨g, 4, none⟩ = some (.int .i64 (j : Int)) := row_cell X1.out 4
    cases hv : vat V n with
    | false =>
      rw [hv] at cV
      have N2 := Lib.hid (NO.out (by rw [SB.out, hv]; rfl) W B1.out)
      clear NO YES SB SX
      go_wp2
      go_ret3
      exact N2.out
    | true =>
      rw [hv] at cV
      go_wp2_with fail
      refine (GA.out _).mono ?_
      rintro e w2 ⟨rfl, b2⟩
      have X2 := Lib.hid ((b2.block _ (lt_of_block X1.out)).trans X1.out)
      have B2 := Lib.hid (B1.out.trans (b2.mono B1.out.size))
      clear b2 GA X1 B1 cV x0 x1 x2 x3 x4
      go_upto_region 4 with fail
      have cS := Sd.cell_by ((B2.out.cell lS).trans CS.out)
      have x2 := Sd.cell_by (show w2.cell? ⟨g, 2, none⟩ = some (.int .i64 f) from row_cell X2.out 2)
      have x3 := Sd.cell_by (show w2.cell? ⟨g, 3, none⟩ = some (.int .i64 r) from row_cell X2.out 3)
      refine Sf.start [(0, 0), (0, 1), (0, 2), (0, 3), (0, 4), (0, 5), (0, 6), (0, 7), (1, 8), (0, 9), (0, 10), (0, 11), (2, 12), (1, 13), (0, 14)] [⟨12, 12, #[.int .u8 0, .int .u8 0, .int .u8 0, .int .u8 0], 71⟩] (by kernel_rfl) (by kernel_rfl) (by kernel_rfl) (by decide) (by decide) ?_ ?_ ?_
      · simp
      · intro f hf
        simp only [List.mem_cons, List.not_mem_nil, or_false] at hf
        subst hf
        exact ⟨_, rfl, rfl, rfl, fun ρ w => by go_simp⟩
      dsimp only [Sf.picks, List.getElem?_cons_succ, List.getElem?_cons_zero]
      have BW := Lib.hid ((Below.refl w2.heap.size w2).drew)
      unfold ptr at cS
      repeat (refine Sf.lit (fun xs => ?_); simp only [Sf.fill, List.foldl_cons, List.foldl_nil]; quiet_step (fail); refine wpQuiet_nil ?_)
      refine Sf.call (fun xs w3 hb hc => ⟨by rfl, fun K hK => ?_⟩)
      have B3 := Lib.hid (BW.out.trans (hb.mono BW.out.size))
      clear hb hc BW
      simp only [Sf.fill, List.foldl_cons, List.foldl_nil]
      go_simp
      refine (SG.out w3 (B2.out.trans (B3.out.mono B2.out.size))).mono ?_
      rintro e4 w4 ⟨rfl, b4⟩
      have B4 := Lib.hid (B3.out.trans (b4.mono B3.out.size))
      refine hK _ _ (Sd.Cl.of B4.out) b4.size (fun _ => b4) ?_
      clear hK K b4 B3 SG
      unfold rec4
      repeat (refine Sf.lit (fun xs => ?_); simp only [Sf.fill, List.foldl_cons, List.foldl_nil]; quiet_step (fail); refine wpQuiet_nil ?_)
      refine Sf.meet (fun g7 w7 hb hc row n7 hH hL => ?_)
      have B7 := Lib.hid (B4.out.trans (hb.mono B4.out.size))
      have R7 : Hid (w7.heap[g7]? = some (.cells (arr4 z4) 71 (0, 0))) := Lib.hid row
      clear hb hc row hH hL B4
      repeat (refine Sf.lit (fun xs => ?_); simp only [Sf.fill, List.foldl_nil]; quiet_step (fail); refine wpQuiet_nil ?_)
      refine Sf.call (fun xs w9 hb hc => ⟨by rfl, fun K hK => ?_⟩)
      have B9 := Lib.hid (B7.out.trans (hb.mono B7.out.size))
      have R9 := (hb.block _ (lt_of_block R7.out)).trans R7.out
      have d0 : w9.cell? ⟨g7, 0, none⟩ = some (.int .u8 0) := row_cell R9 0
      have d1 : w9.cell? ⟨g7, 1, none⟩ = some (.int .u8 0) := row_cell R9 1
      have d2 : w9.cell? ⟨g7, 2, none⟩ = some (.int .u8 0) := row_cell R9 2
      have d3 : w9.cell? ⟨g7, 3, none⟩ = some (.int .u8 0) := row_cell R9 3
      have f0 : w9.frozen? ⟨g7, 0, none⟩ = false := row_frozen R9 0
      have f1 : w9.frozen? ⟨g7, 1, none⟩ = false := row_frozen R9 1
      have f2 : w9.frozen? ⟨g7, 2, none⟩ = false := row_frozen R9 2
      have f3 : w9.frozen? ⟨g7, 3, none⟩ = false := row_frozen R9 3
      have RA := sto4_row R9 gv
      have BA := sto4_below (o := 0) (r := gv) B9.out n7
      have hsz := sto4_size w9 g7 0 gv
      clear hb hc B7 R7 R9
      simp only [Sf.fill, List.foldl_nil]
      go_simp
      refine hK _ _ (Sd.Cl.of BA) (by rw [← hsz]; exact Nat.le_refl _) (fun h => absurd rfl h) ?_
      clear hK K d0 d1 d2 d3 f0 f1 f2 f3 hsz
      show Sf.wpSf _ _ _ _ _ _ _ _ _ _ (sto4 w9 g7 0 gv)
      have B10 := Lib.hid (B2.out.trans (BA.mono B2.out.size))
      have X10 := Lib.hid ((BA.block _ (lt_of_block X2.out)).trans X2.out)
      have R10 := Lib.hid RA
      clear BA RA cS x2 x3 B9 B2 X2 CS CV n7
      generalize sto4 w9 g7 0 gv = wA at *
      repeat (refine Sf.lit (fun xs => ?_); simp only [Sf.fill, List.foldl_nil]; quiet_step (fail); refine wpQuiet_nil ?_)
      refine Sf.done (fun wB hb hc => ?_)
      have BB := Lib.hid (B10.out.trans (hb.mono B10.out.size))
      have XB := Lib.hid ((hb.block _ (lt_of_block X10.out)).trans X10.out)
      have RB := Lib.hid ((hb.block _ (lt_of_block R10.out)).trans R10.out)
      clear hb hc B10 X10 R10
      cases hb : gb with
      | false =>
        have N2 := Lib.hid (NO.out (by rw [SB.out, hv, hb]; rfl) wB BB.out)
        clear NO YES SB SX
        go_wp2
        go_ret3
        exact N2.out
      | true =>
        have N2 := Lib.hid (YES.out (by rw [SB.out, hv, hb]; rfl) wB.drew (BB.out.trans ((Below.refl _ _).drew)))
        rw [SX.out] at N2
        clear NO YES SB SX GN
        go_upto_region 7 with fail
        have x4 := Sd.cell_by (show wB.cell? ⟨g, 4, none⟩ = some (.int .i64 (j : Int)) from row_cell XB.out 4)
        have rj := Sd.cell_by ((row_cell RB.out j).trans (arr4_at gv hj))

        obtain rfl | rfl | rfl | rfl : j = 0 ∨ j = 1 ∨ j = 2 ∨ j = 3 := by omega
        all_goals
          refine Sd.start [(false, 0), (false, 1), (false, 2), (false, 3), (false, 4), (false, 5), (false, 6), (false, 7)] (by kernel_rfl) (by kernel_rfl) (by kernel_rfl) ?_
          dsimp only [Sd.picks, List.getElem?_cons_succ, List.getElem?_cons_zero]
          repeat (refine Sd.lit ?_; quiet_step (fail); refine wpQuiet_nil ?_)
          refine Sd.done ?_
          clear x4 rj
          go_wp2
          go_ret3
          exact N2.out
  · have SBF : snB S T V s = false := by unfold snB; rw [decide_eq_false h0]; rfl
    have N2 := Lib.hid (NO.out SBF)
    clear NO YES SBF HH H
    generalize sbN S T V s = a1 at *
    generalize sbX S T V s = a2 at *
    generalize snB S T V s = a3 at *
    have d0 : decide (sN s T < 0) = true := decide_eq_true (by omega)
    generalize sN s T = m at *
    generalize sE s T = x at *
    unfold ent at SA
    go_enter Tryz.func34, Tryz.ntmps34
    go_wp2_with fail
    refine SA.out.mono ?_
    rintro e w1 ⟨rfl, b1⟩
    have B1 := Lib.hid (b1.alloc b1.size (.cells #[.int .i64 x.1, .int .i64 x.2.1, .int .i64 x.2.2.1, .int .i64 x.2.2.2.1, .int .i64 x.2.2.2.2] 75))
    have hm0 : m < 0 := by omega
    clear b1 SA
    go_wp2
    go_ret3
    exact N2.out _ B1.out

end Go.Proofs.YtilacdjekdngkaaGreatDoor.Pa

/- uart.place: what a frame's bit is worth in the byte; uart.isOdd: is an odd number of a frame's bits 1 to 9 high? -/
namespace Go.Proofs.YtilacdjekdngkaaGreatDoor.Ua
open Go.RowKit

theorem place_any (w : World) (k : Nat) (h : k < 8) : Calls Tryz.prog 61 #[.int .i64 (k + 1 : Nat)] w fun e w' => e = .returned (.int .u8 (2 ^ k)) ∧ w = w' := by
  rcases (by omega : k = 0 ∨ k = 1 ∨ k = 2 ∨ k = 3 ∨ k = 4 ∨ k = 5 ∨ k = 6 ∨ k = 7) with rfl | rfl | rfl | rfl | rfl | rfl | rfl | rfl
  all_goals
    go_enter Tryz.func61, Tryz.ntmps61
    go_wp2
    go_ret
    exact ⟨ret_int (by decide), rfl⟩

theorem isOdd_any (w : World) (F : Nat → Bool) : Calls Tryz.prog 62 #[.agg (arr F)] w fun e w' => e = .returned (.bool (par F 9)) ∧ Below w.heap.size w w' := by
  have R0 := Lib.hid (Row.new w F)
  have B0 := Lib.hid ((Below.refl w.heap.size w).alloc (Nat.le_refl _) (.cells (arr F) 46))
  go_enter Tryz.func62, Tryz.ntmps62
  go_wp2
  go_loop [3, 8] (fun o i => ∃ k : Nat, k ≤ 9 ∧ i = .int .i64 k ∧ o = .bool (par F k)) (fun _ i => 9 - (intOf i).toNat)
  case atStart => exact ⟨0, by omega, rfl, rfl⟩
  case round =>
    obtain ⟨k, hk, rfl, rfl⟩ := hrel
    by_cases hlt : k < 9
    · have c := R0.out.cell (1 + k) (by omega)
      have e : par F (k + 1) = (par F k != F (1 + k)) := by rw [par, Nat.add_comm 1 k]
      have E := Lib.hid e
      clear e
      go_wp2
      go_round
      case rel => exact ⟨k + 1, by omega, by go_num, by rw [E.out]; cases par F k <;> cases F (1 + k) <;> rfl⟩
      case measure => simp [intOf]; omega
    · obtain rfl : k = 9 := by omega
      go_wp2
      go_ret
      exact ⟨rfl, B0.out⟩

end Go.Proofs.YtilacdjekdngkaaGreatDoor.Ua

/- uart.Put: a byte's frame. -/
namespace Go.Proofs.YtilacdjekdngkaaGreatDoor.Ua
open Go.RowKit

theorem put_1 (b : Int) (i : Nat) : put b 1 i = false := by unfold put; rw [if_neg (by omega)]
theorem put_step (b : Int) (k : Nat) (h : 1 ≤ k) (i : Nat) : upd (put b k) k (bit b (k - 1)) i = put b (k + 1) i := by
  unfold upd put
  by_cases e : i = k
  · subst e; rw [if_pos rfl, if_pos (by omega)]
  · rw [if_neg e]
    by_cases c : 1 ≤ i ∧ i < k
    · rw [if_pos c, if_pos (by omega)]
    · rw [if_neg c, if_neg (by omega)]

def no (_ : Nat) : Bool := false
/-- What holds of the world in which the frame is made: the result's block, the frame's, and all else as it was. -/
def Two (w wr : World) (F : Nat → Bool) : Prop := Row wr w.heap.size no ∧ Row wr (w.heap.size + 1) F ∧ Below w.heap.size w wr
theorem Two.frame {w wr : World} {F : Nat → Bool} (h : Two w wr F) : Row wr (w.heap.size + 1) F := h.2.1
theorem Two.res {w wr : World} {F : Nat → Bool} (h : Two w wr F) : Row wr w.heap.size no := h.1
theorem two_new (w : World) (F : Nat → Bool) (h : ∀ i, i < 11 → false = F i) : Two w ((w.alloc (.cells (arr no) 46)).alloc (.cells (arr no) 46)) F := by
  refine ⟨(Row.new w no).alloc _, ?_, ((Below.refl _ _).alloc (Nat.le_refl _) _).alloc (by simp) _⟩
  have := Row.new (w.alloc (.cells (arr no) 46)) no
  have e : (w.alloc (.cells (arr no) 46)).heap.size = w.heap.size + 1 := by simp
  rw [e] at this
  exact this.to h
theorem Two.set_ {w wr : World} {F : Nat → Bool} (h : Two w wr F) (k : Nat) (hk : k < 11) (x : Bool) : Two w (wr.setCell ⟨w.heap.size + 1, k, none⟩ (.bool x)) (upd F k x) :=
  ⟨h.1.far (by simp) _, h.2.1.set_ k hk x, h.2.2.setCell (by simp) _⟩
theorem Two.below {w wr w1 : World} {F : Nat → Bool} (h : Two w wr F) (hb : Below wr.heap.size wr w1) : Two w w1 F :=
  ⟨h.1.below hb h.1.lt, h.2.1.below hb h.2.1.lt, h.2.2.trans (hb.mono h.2.2.size)⟩
theorem Two.to {w wr : World} {F G : Nat → Bool} (h : Two w wr F) (e : ∀ i, i < 11 → F i = G i) : Two w wr G := ⟨h.1, h.2.1.to e, h.2.2⟩

set_option maxHeartbeats 400000 in
theorem put_any (w : World) (b : Int) (odd : Bool) (h0 : 0 ≤ b) (h1 : b ≤ 255) : Calls Tryz.prog 35 #[.int .u8 b, .bool odd] w fun e w' => e = .returned (.agg (arr (frm b odd))) ∧ Below w.heap.size w w' := by
  have T0 := Lib.hid (two_new w (put b 1) (fun i _ => (put_1 b i).symm))
  go_enter Tryz.func35, Tryz.ntmps35
  go_wp2
  go_loopw [6] (fun i wr => ∃ k : Nat, 1 ≤ k ∧ k ≤ 9 ∧ i = .int .i64 k ∧ Hid (Two w wr (put b k))) (fun i _ => 9 - (intOf i).toNat)
  case atStart => exact ⟨1, by omega, by omega, rfl, T0⟩
  case round =>
    obtain ⟨k, k1, k9, rfl, T⟩ := hrel
    by_cases hlt : k < 9
    · obtain ⟨j, rfl⟩ : ∃ j, k = j + 1 := ⟨k - 1, by omega⟩
      have c := T.out.2.1.cell (j + 1) (by omega)
      have f := T.out.2.1.frozen (j + 1)
      go_wp2_with fail
      refine (place_any _ j (by omega)).mono ?_
      rintro e w' ⟨rfl, rfl⟩
      go_wp2
      go_roundw
      case rel => exact ⟨j + 1 + 1, by omega, by omega, by go_num, by rw [and_bit b j h0 h1 (by omega)]; exact (T.out.set_ (j + 1) (by omega) _).to (fun i _ => put_step b (j + 1) (by omega) i)⟩
      case measure => simp [intOf]; omega
    · obtain rfl : k = 9 := by omega
      go_wp2_with (refine wpList_load_row rfl 46 _ rfl _ rfl _ _ _ _ T.out.2.1 Tryz.underlying46 rfl (info_of _) ?_)
      refine (isOdd_any _ _).mono ?_
      rintro e w1 ⟨rfl, b1⟩
      have T1 := Lib.hid (T.out.below b1)
      have c9 := T1.out.2.1.cell 9 (by omega)
      have c10 := T1.out.2.1.cell 10 (by omega)
      have f9 := T1.out.2.1.frozen 9
      have f10 := T1.out.2.1.frozen 10
      clear b1
      have T2 := Lib.hid ((T1.out.set_ 9 (by omega) (par (put b 9) 9 != odd)).set_ 10 (by omega) true)
      go_wp2_with (first
        | (refine wpList_load_row rfl 46 _ rfl _ rfl _ _ _ _ T2.out.2.1 Tryz.underlying46 rfl (info_of _) ?_)
        | (refine wpList_store_row rfl 46 _ _ rfl _ _ rfl rfl _ _ T2.out.1 (info_of _) rfl (arr_one _) ?_))
      refine bodyPost_ret (results_cell_row rfl _ _ _ _ _ _ _ rfl (T2.out.1.row _) Tryz.underlying46 rfl (info_of _)) rfl ⟨rfl, ?_⟩
      exact below_setRow T2.out.2.2 _ _ (Nat.le_refl _)

end Go.Proofs.YtilacdjekdngkaaGreatDoor.Ua

/- uart.Take: a frame's byte, and whether its parity is odd. -/
namespace Go.Proofs.YtilacdjekdngkaaGreatDoor.Ua
open Go.RowKit

theorem ret_three {a b : Int} {p q : Bool} {c d : Int} {k : IntKind} (h1 : a = b) (h2 : p = q) (h3 : c = d) : Ending.returned (.tuple #[.int k a, .bool p, .int .i64 c]) = .returned (.tuple #[.int k b, .bool q, .int .i64 d]) := by rw [h1, h2, h3]
theorem of_bad {F : Nat → Bool} (h : bad F = true) : 0 = tb F ∧ false = tp F ∧ 2 = te F := by unfold tb tp te; rw [h]; exact ⟨rfl, rfl, rfl⟩
theorem of_good {F : Nat → Bool} (h : bad F = false) : (val F 8 : Int) = tb F ∧ par F 9 = tp F ∧ 0 = te F := by unfold tb tp te; rw [h]; exact ⟨rfl, rfl, rfl⟩

set_option maxHeartbeats 400000 in
theorem take_bad (w : World) (F : Nat → Bool) (hb : bad F = true) : Calls Tryz.prog 40 #[.agg (arr F)] w fun e w' => e = .returned (.tuple #[.int .u8 (tb F), .bool (tp F), .int .i64 (te F)]) ∧ Below w.heap.size w w' := by
  have R0 := Lib.hid (Row.new w F)
  have B0 := Lib.hid ((Below.refl w.heap.size w).alloc (Nat.le_refl _) (.cells (arr F) 46))
  have c0 := R0.out.cell 0 (by omega)
  have c10 := R0.out.cell 10 (by omega)
  have OB := Lib.hid (of_bad hb)
  unfold bad at hb
  cases h0 : F 0 with
  | true =>
    rw [h0] at c0
    clear hb
    go_enter Tryz.func40, Tryz.ntmps40
    go_wp2
    go_ret3
    exact ⟨ret_three OB.out.1 OB.out.2.1 OB.out.2.2, B0.out⟩
  | false =>
    have h10 : F 10 = false := by rw [h0] at hb; simpa using hb
    rw [h0] at c0
    rw [h10] at c10
    clear hb
    go_enter Tryz.func40, Tryz.ntmps40
    go_wp2
    go_ret3
    exact ⟨ret_three OB.out.1 OB.out.2.1 OB.out.2.2, B0.out⟩

set_option maxHeartbeats 400000 in
theorem take_good (w : World) (F : Nat → Bool) (hb : bad F = false) : Calls Tryz.prog 40 #[.agg (arr F)] w fun e w' => e = .returned (.tuple #[.int .u8 (tb F), .bool (tp F), .int .i64 (te F)]) ∧ Below w.heap.size w w' := by
  have R0 := Lib.hid (Row.new w F)
  have B0 := Lib.hid ((Below.refl w.heap.size w).alloc (Nat.le_refl _) (.cells (arr F) 46))
  have c0 := R0.out.cell 0 (by omega)
  have c10 := R0.out.cell 10 (by omega)
  have OB := Lib.hid (of_good hb)
  unfold bad at hb
  simp at hb
  obtain ⟨h0, h10⟩ := hb
  rw [h0] at c0
  rw [h10] at c10
  clear h0 h10
  go_enter Tryz.func40, Tryz.ntmps40
  go_wp2
  go_loop [2, 5] (fun x i => ∃ k : Nat, k ≤ 8 ∧ i = .int .i64 (k + 1 : Nat) ∧ x = .int .u8 (val F k : Nat)) (fun _ i => 9 - (intOf i).toNat)
  case atStart => exact ⟨0, by omega, rfl, rfl⟩
  case round =>
    obtain ⟨k, hk, rfl, rfl⟩ := hrel
    by_cases hlt : k < 8
    · have c := R0.out.cell (k + 1) (by omega)
      have hv := val_lt F k
      cases hF : F (k + 1) with
      | true =>
        rw [hF] at c
        have E := Lib.hid (or_bit (val F k) k hlt hv)
        have V : Hid (val F (k + 1) = val F k + 2 ^ k) := by show val F (k + 1) = _; rw [val, hF]; rfl
        clear hF hv
        go_wp2_with fail
        refine (place_any _ k hlt).mono ?_
        rintro e w' ⟨rfl, rfl⟩
        go_wp2
        go_round
        case rel => exact ⟨k + 1, by omega, by go_num, by rw [V.out, E.out]⟩
        case measure => simp [intOf]; omega
      | false =>
        rw [hF] at c
        have V : Hid (val F (k + 1) = val F k) := by show val F (k + 1) = _; rw [val, hF]; rfl
        clear hF hv
        go_wp2
        go_round
        case rel => exact ⟨k + 1, by omega, by go_num, by rw [V.out]⟩
        case measure => simp [intOf]; omega
    · obtain rfl : k = 8 := by omega
      go_wp2_with (refine wpList_load_row rfl 46 _ rfl _ rfl _ _ _ _ R0.out Tryz.underlying46 rfl (info_of _) ?_)
      refine (isOdd_any _ _).mono ?_
      rintro e w1 ⟨rfl, b1⟩
      have B1 := Lib.hid (B0.out.trans (b1.mono B0.out.size))
      clear b1
      go_wp2
      go_ret3
      exact ⟨ret_three OB.out.1 OB.out.2.1 OB.out.2.2, B1.out⟩

theorem take_any (w : World) (F : Nat → Bool) : Calls Tryz.prog 40 #[.agg (arr F)] w fun e w' => e = .returned (.tuple #[.int .u8 (tb F), .bool (tp F), .int .i64 (te F)]) ∧ Below w.heap.size w w' := by
  cases h : bad F with
  | true => exact take_bad w F h
  | false => exact take_good w F h

end Go.Proofs.YtilacdjekdngkaaGreatDoor.Ua

/- uart.Turn: a frame of which some bits are turned. -/
namespace Go.Proofs.YtilacdjekdngkaaGreatDoor.Ua
open Go.RowKit

theorem turn_0 (F : Nat → Bool) (m : Int) (i : Nat) : turn F m 0 i = F i := by unfold turn; rw [if_neg (by omega)]
theorem turn_yes {F : Nat → Bool} {m : Int} {k : Nat} (h : bit m k = true) (i : Nat) : upd (turn F m k) k (!turn F m k k) i = turn F m (k + 1) i := by
  unfold upd turn
  by_cases e : i = k
  · subst e; rw [if_pos rfl, if_neg (by omega), if_pos (by omega), h]; simp
  · rw [if_neg e]
    by_cases c : i < k
    · rw [if_pos c, if_pos (by omega)]
    · rw [if_neg c, if_neg (by omega)]
theorem turn_no {F : Nat → Bool} {m : Int} {k : Nat} (h : bit m k = false) (i : Nat) : turn F m k i = turn F m (k + 1) i := by
  unfold turn
  by_cases e : i = k
  · subst e; rw [if_neg (by omega), if_pos (by omega), h]; simp
  · by_cases c : i < k
    · rw [if_pos c, if_pos (by omega)]
    · rw [if_neg c, if_neg (by omega)]

/-- What holds of the world in which a frame that was handed in is turned: its own block, the result's, and all else as it was. -/
def Own2 (w wr : World) (F : Nat → Bool) : Prop := Row wr w.heap.size F ∧ Row wr (w.heap.size + 1) no ∧ Below w.heap.size w wr
theorem own2_new (w : World) (F : Nat → Bool) : Own2 w ((w.alloc (.cells (arr F) 46)).alloc (.cells (arr no) 46)) F := by
  refine ⟨(Row.new w F).alloc _, ?_, ((Below.refl _ _).alloc (Nat.le_refl _) _).alloc (by simp) _⟩
  have := Row.new (w.alloc (.cells (arr F) 46)) no
  have e : (w.alloc (.cells (arr F) 46)).heap.size = w.heap.size + 1 := by simp
  rw [e] at this
  exact this
theorem Own2.set_ {w wr : World} {F : Nat → Bool} (h : Own2 w wr F) (k : Nat) (hk : k < 11) (x : Bool) : Own2 w (wr.setCell ⟨w.heap.size, k, none⟩ (.bool x)) (upd F k x) :=
  ⟨h.1.set_ k hk x, h.2.1.far (by simp) _, h.2.2.setCell (by simp) _⟩
theorem Own2.to {w wr : World} {F G : Nat → Bool} (h : Own2 w wr F) (e : ∀ i, i < 11 → F i = G i) : Own2 w wr G := ⟨h.1.to e, h.2.1, h.2.2⟩

set_option maxHeartbeats 400000 in
theorem turn_any (w : World) (F : Nat → Bool) (m : Int) : Calls Tryz.prog 36 #[.agg (arr F), .int .i64 m] w fun e w' => e = .returned (.agg (arr (turn F m 11))) ∧ Below w.heap.size w w' := by
  have T0 := Lib.hid ((own2_new w F).to (fun i _ => (turn_0 F m i).symm))
  go_enter Tryz.func36, Tryz.ntmps36
  go_wp2
  go_loopw [6] (fun i wr => ∃ k : Nat, k ≤ 11 ∧ i = .int .i64 k ∧ Hid (Own2 w wr (turn F m k))) (fun i _ => 11 - (intOf i).toNat)
  case atStart => exact ⟨0, by omega, rfl, T0⟩
  case round =>
    obtain ⟨k, hk, rfl, T⟩ := hrel
    by_cases hlt : k < 11
    · have c := T.out.1.cell k hlt
      have f := T.out.1.frozen k
      cases hb : bit m k with
      | true =>
        have TY := Lib.hid (turn_yes (F := F) hb)
        have tt := (test_one m k).trans hb
        clear hb
        go_wp2
        go_roundw
        case rel => exact ⟨k + 1, by omega, by go_num, (T.out.set_ k hlt _).to (fun i _ => TY.out i)⟩
        case measure => simp [intOf]; omega
      | false =>
        have TN := Lib.hid (turn_no (F := F) hb)
        have tt := (test_one m k).trans hb
        clear hb
        go_wp2
        go_roundw
        case rel => exact ⟨k + 1, by omega, by go_num, T.out.to (fun i _ => TN.out i)⟩
        case measure => simp [intOf]; omega
    · obtain rfl : k = 11 := by omega
      go_wp2_with (first
        | (refine wpList_load_row rfl 46 _ rfl _ rfl _ _ _ _ T.out.1 Tryz.underlying46 rfl (info_of _) ?_)
        | (refine wpList_store_row rfl 46 _ _ rfl _ _ rfl rfl _ _ T.out.2.1 (info_of _) rfl (arr_one _) ?_))
      refine bodyPost_ret (results_cell_row rfl _ _ _ _ _ _ _ rfl (T.out.2.1.row _) Tryz.underlying46 rfl (info_of _)) rfl ⟨rfl, ?_⟩
      exact below_setRow T.out.2.2 _ _ (by omega)

end Go.Proofs.YtilacdjekdngkaaGreatDoor.Ua
