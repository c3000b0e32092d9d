/- A node's files as lists by rising numbers: where one is, put in where it belongs, what is done to it, as plain numbers. -/
import Derived.Test.YtfbhmhgmebaoaaaFlDo
import Derived.Test.YtfbhmhgmebaoaaaAdRef
import Derived.Maps.OwnSet
namespace Go.Proofs.Ytfbhmhgmebaoaaa.Fs
open Go.RowKit
open Go.Proofs.Ytfbhmhgmebaoaaa.Fl (R4 z4 K4 rec4 rat goodF goodFB okR okL doE newR okR_at okR_z set_rat inc num bytes file hdr)
open Go.Proofs.Ytfbhmhgmebaoaaa.Ad (goodB)

section
variable {α : Type} (κ : α → Int)
/-- Put in ahead of the first greater one. -/
def ins (c : α) : List α → List α
  | [] => [c]
  | y :: r => if κ c < κ y then c :: y :: r else y :: ins c r
def put (c : α) (l : List α) : List α := ins κ c (l.filter fun y => decide (¬ κ y = κ c))
def look (n : Int) (l : List α) : Option α := l.find? fun y => decide (κ y = n)
def Srt (l : List α) : Prop := l.Pairwise fun y z => κ y < κ z
variable {κ}
theorem mem_ins {c x : α} : ∀ {l : List α}, x ∈ ins κ c l ↔ x = c ∨ x ∈ l
  | [] => by simp [ins]
  | y :: r => by
    unfold ins
    split
    · simp
    · simp only [List.mem_cons, mem_ins (l := r)]
      constructor
      · rintro (h | h | h)
        · exact .inr (.inl h)
        · exact .inl h
        · exact .inr (.inr h)
      · rintro (h | h | h)
        · exact .inr (.inl h)
        · exact .inl h
        · exact .inr (.inr h)
theorem mem_put {c x : α} {l : List α} : x ∈ put κ c l ↔ x = c ∨ x ∈ l ∧ κ x ≠ κ c := by
  unfold put
  rw [mem_ins, List.mem_filter]
  simp
theorem srt_ins {c : α} : ∀ {l : List α}, Srt κ l → (∀ x ∈ l, κ x ≠ κ c) → Srt κ (ins κ c l)
  | [], _, _ => by simp [ins, Srt]
  | y :: r, h, hn => by
    obtain ⟨h1, h2⟩ := List.pairwise_cons.1 h
    unfold ins
    split
    · rename_i hlt
      refine List.pairwise_cons.2 ⟨fun z hz => ?_, h⟩
      rcases List.mem_cons.1 hz with rfl | hz
      · exact hlt
      · exact Int.lt_trans hlt (h1 z hz)
    · rename_i hlt
      have hy := hn y List.mem_cons_self
      refine List.pairwise_cons.2 ⟨fun z hz => ?_, srt_ins h2 fun x hx => hn x (List.mem_cons_of_mem _ hx)⟩
      rcases mem_ins.1 hz with rfl | hz
      · omega
      · exact h1 z hz
theorem srt_put {c : α} {l : List α} (h : Srt κ l) : Srt κ (put κ c l) := by
  unfold put
  exact srt_ins (h.filter _) fun x hx => by simpa using (List.mem_filter.1 hx).2
theorem len_ins {c : α} : ∀ {l : List α}, (ins κ c l).length = l.length + 1
  | [] => rfl
  | y :: r => by
    unfold ins
    split
    · rfl
    · simp [len_ins (l := r)]
theorem look_none {n : Int} {l : List α} : look κ n l = none ↔ ∀ x ∈ l, κ x ≠ n := by
  unfold look
  rw [List.find?_eq_none]
  simp
theorem look_some {n : Int} {l : List α} {c : α} (h : look κ n l = some c) : c ∈ l ∧ κ c = n := by
  unfold look at h
  exact ⟨List.mem_of_find?_eq_some h, by simpa using List.find?_some h⟩
theorem look_at {l : List α} {c : α} (h : Srt κ l) (hc : c ∈ l) : look κ (κ c) l = some c := by
  induction l with
  | nil => cases hc
  | cons y r ih =>
    obtain ⟨h1, h2⟩ := List.pairwise_cons.1 h
    unfold look
    rw [List.find?_cons]
    rcases List.mem_cons.1 hc with rfl | hc'
    · simp
    · have := h1 c hc'
      rw [decide_eq_false (by omega)]
      exact ih h2 hc'
theorem put_new {c : α} {l : List α} (h : look κ (κ c) l = none) : put κ c l = ins κ c l := by
  unfold put
  rw [List.filter_eq_self.2]
  intro x hx
  simpa using look_none.1 h x hx
/-- At the place where it belongs. -/
theorem ins_at {c : α} : ∀ {l : List α} {k : Nat}, (∀ x ∈ l.take k, κ x < κ c) → (∀ x, l[k]? = some x → κ c < κ x) → ins κ c l = l.take k ++ c :: l.drop k
  | [], k, _, _ => by simp [ins]
  | y :: r, 0, _, h2 => by
    have := h2 y rfl
    simp [ins, this]
  | y :: r, k + 1, h1, h2 => by
    have hy := h1 y (by simp)
    unfold ins
    rw [if_neg (by omega), ins_at (l := r) (k := k) (fun x hx => h1 x (by simp [hx])) (fun x hx => h2 x (by simpa using hx))]
    rfl
theorem filter_other {c : α} : ∀ {r : List α}, (∀ x ∈ r, κ c < κ x) → r.filter (fun y => decide (¬ κ y = κ c)) = r := fun {r} h => List.filter_eq_self.2 fun x hx => by have := h x hx; simpa using (by omega : ¬ κ x = κ c)
/-- One that is there is replaced where it is. -/
theorem put_set {c : α} : ∀ {l : List α} {k : Nat} {x : α}, Srt κ l → l[k]? = some x → κ x = κ c → put κ c l = l.set k c
  | y :: r, 0, x, h, hx, e => by
    obtain rfl : y = x := by simpa using hx
    obtain ⟨h1, h2⟩ := List.pairwise_cons.1 h
    have hf := filter_other (c := c) (κ := κ) (r := r) fun z hz => by have := h1 z hz; omega
    unfold put
    rw [List.filter_cons, if_neg (by simp [e]), hf]
    cases r with
    | nil => rfl
    | cons z s =>
      have := h1 z List.mem_cons_self
      unfold ins
      rw [if_pos (by omega)]
      rfl
  | y :: r, k + 1, x, h, hx, e => by
    obtain ⟨h1, h2⟩ := List.pairwise_cons.1 h
    have hx' : r[k]? = some x := by simpa using hx
    have hlt := h1 x (List.mem_of_getElem? hx')
    have ih := put_set (c := c) h2 hx' e
    unfold put at ih ⊢
    rw [List.filter_cons, if_pos (by simp; omega)]
    unfold ins
    rw [if_neg (by omega), ih]
    rfl
theorem len_put {c : α} {l : List α} (h : Srt κ l) (hs : (look κ (κ c) l).isSome = true) : (put κ c l).length = l.length := by
  obtain ⟨x, hx⟩ := Option.isSome_iff_exists.1 hs
  obtain ⟨hm, e⟩ := look_some hx
  obtain ⟨k, hk⟩ := List.getElem?_of_mem hm
  rw [put_set h hk e, List.length_set]

variable {β : Type} {κ' : β → Int} {f : α → β}
theorem map_ins (hf : ∀ x, κ' (f x) = κ x) (c : α) : ∀ l : List α, (ins κ c l).map f = ins κ' (f c) (l.map f)
  | [] => rfl
  | y :: r => by
    simp only [ins, List.map_cons, hf]
    split
    · rfl
    · rw [List.map_cons, map_ins hf c r]
theorem map_put (hf : ∀ x, κ' (f x) = κ x) (c : α) (l : List α) : (put κ c l).map f = put κ' (f c) (l.map f) := by
  unfold put
  rw [map_ins hf, List.filter_map]
  congr 2
  exact congrArg (fun q => List.filter q l) (funext fun x => by simp [hf])
theorem map_look (hf : ∀ x, κ' (f x) = κ x) (n : Int) (l : List α) : look κ' n (l.map f) = (look κ n l).map f := by
  unfold look
  rw [List.find?_map]
  congr 1
  exact congrArg (fun q => List.find? q l) (funext fun x => by simp [hf])
theorem map_srt (hf : ∀ x, κ' (f x) = κ x) {l : List α} : Srt κ' (l.map f) ↔ Srt κ l := by
  unfold Srt
  rw [List.pairwise_map]
  simp [hf]
/-- Rising numbers from lo on, below hi: so many at most. -/
theorem len_le : ∀ {l : List α} {lo hi : Int}, Srt κ l → (∀ x ∈ l, lo ≤ κ x ∧ κ x < hi) → lo ≤ hi → (l.length : Int) ≤ hi - lo
  | [], lo, hi, _, _, h => by simp; omega
  | y :: r, lo, hi, h, hb, hle => by
    obtain ⟨h1, h2⟩ := List.pairwise_cons.1 h
    have hy := hb y List.mem_cons_self
    have := len_le (l := r) (lo := κ y + 1) (hi := hi) h2 (fun x hx => ⟨h1 x hx, (hb x (List.mem_cons_of_mem _ hx)).2⟩) (by omega)
    simp only [List.length_cons]
    omega
end

/-! ### what a store is, and what is done to it -/
abbrev Fil := Int × Int × List R4
abbrev Abs := List Fil
abbrev key (e : Fil) : Int := e.1
def addE (A : Abs) (n p : Int) (l : List R4) : Int := if 0 ≤ n ∧ n ≤ 63 then if goodF p l then if (look key n A).isSome then 10 else 0 else 2 else 1
def addA (A : Abs) (n p : Int) (l : List R4) : Abs := if addE A n p l = 0 then put key (n, p, l) A else A
def dE (A : Abs) (o f r : Int) : Int := if goodB o f r = true then match look key f A with | none => 3 | some e => doE e.2.1 e.2.2 o r else 1
def dV (A : Abs) (o f r : Int) (x : R4) : R4 := match look key f A with | none => z4 | some e => if dE A o f r = 0 then newR e.2.2 o r x else z4
def dA (A : Abs) (o f r : Int) (x : R4) : Abs := match look key f A with | none => A | some e => if dE A o f r = 0 then put key (f, e.2.1, e.2.2.set r.toNat (newR e.2.2 o r x)) A else A
def dD (A : Abs) (o f r d : Int) : Int := if dE A o f r = 5 then d + 1 else d
def gB (A : Abs) (n r : Int) : Bool := match look key n A with | none => false | some e => decide (0 ≤ r ∧ r < e.2.2.length)
def gV (A : Abs) (n r : Int) : R4 := match look key n A with | none => z4 | some e => if 0 ≤ r ∧ r < e.2.2.length then rat e.2.2 r.toNat else z4
def sB (A : Abs) (n r : Int) : Bool := gB A n r && decide (r ≠ 0)
def sA (A : Abs) (n r : Int) (x : R4) : Abs := match look key n A with | none => A | some e => if sB A n r = true then put key (n, e.2.1, e.2.2.set r.toNat x) A else A

/-- A store that may be. -/
structure OkA (A : Abs) : Prop where
  srt : Srt key A
  nm : ∀ e ∈ A, 0 ≤ e.1 ∧ e.1 ≤ 63
  good : ∀ e ∈ A, goodF e.2.1 e.2.2
  ok : ∀ e ∈ A, okL e.2.2
theorem OkA.nil : OkA [] := ⟨List.Pairwise.nil, nofun, nofun, nofun⟩
theorem OkA.len {A : Abs} (h : OkA A) : A.length ≤ 64 := by
  have := len_le (κ := key) (lo := 0) (hi := 64) h.srt (fun x hx => by have := h.nm x hx; show 0 ≤ x.1 ∧ x.1 < 64; omega) (by omega)
  omega
theorem OkA.put {A : Abs} (h : OkA A) {n p : Int} {l : List R4} (hn : 0 ≤ n ∧ n ≤ 63) (hg : goodF p l) (hl : okL l) : OkA (put key (n, p, l) A) := by
  refine ⟨srt_put h.srt, fun e he => ?_, fun e he => ?_, fun e he => ?_⟩ <;> rcases mem_put.1 he with rfl | ⟨hm, _⟩
  · exact hn
  · exact h.nm e hm
  · exact hg
  · exact h.good e hm
  · exact hl
  · exact h.ok e hm
theorem good_set {p : Int} {l : List R4} {k : Nat} {x : R4} (h : goodF p l) (hk : k ≠ 0) : goodF p (l.set k x) := by
  obtain ⟨h1, h2, h3, h4, h5⟩ := h
  refine ⟨h1, h2, by rw [List.length_set]; exact h3, by rw [List.length_set]; exact h4, ?_⟩
  rw [List.length_set, ← h5]
  unfold rat
  rw [List.getD_eq_getElem?_getD, List.getD_eq_getElem?_getD, List.getElem?_set_ne (by omega)]
theorem okL_set {l : List R4} {k : Nat} {x : R4} (h : okL l) (hx : okR x) : okL (l.set k x) := fun r hr => by
  rcases List.mem_or_eq_of_mem_set hr with h1 | rfl
  · exact h r h1
  · exact hx
theorem okR_inc (r : R4) : okR (inc r) := by
  unfold inc Fl.bytes okR
  generalize num r = q
  refine ⟨⟨?_, ?_⟩, ⟨?_, ?_⟩, ⟨?_, ?_⟩, ?_, ?_⟩ <;> simp only <;> omega
theorem okR_new {l : List R4} {o r : Int} {x : R4} (h : okL l) (hx : okR x) : okR (newR l o r x) := by
  unfold newR
  split
  · exact hx
  · split
    · exact okR_inc _
    · exact okR_at h _
theorem good_do {p : Int} {l : List R4} {o r : Int} {x : R4} (h : doE p l o r = 0) : goodF p (l.set r.toNat (newR l o r x)) := by
  obtain ⟨hg, ho, h0, h1⟩ := Fl.doE_of h
  by_cases hr : r = 0
  · subst hr
    have e : o = 0 := by
      unfold doE at h
      rw [if_pos hg, if_pos ho, if_pos ⟨h0, h1⟩] at h
      split at h
      · omega
      · omega
    subst e
    show goodF p (l.set 0 (newR l 0 0 x))
    have e2 : newR l 0 0 x = rat l 0 := by unfold newR; rw [if_neg (by decide), if_neg (by decide)]; rfl
    rw [e2, set_rat l 0 (by omega)]
    exact hg
  · exact good_set hg (by omega)
theorem OkA.find {A : Abs} (h : OkA A) {n : Int} {e : Fil} (he : look key n A = some e) : (0 ≤ n ∧ n ≤ 63) ∧ goodF e.2.1 e.2.2 ∧ okL e.2.2 ∧ e.1 = n := by
  obtain ⟨hm, hk⟩ := look_some he
  have hk' := hk
  exact ⟨hk' ▸ h.nm e hm, h.good e hm, h.ok e hm, hk'⟩
theorem OkA.add {A : Abs} (h : OkA A) {n p : Int} {l : List R4} (hl : okL l) : OkA (addA A n p l) := by
  unfold addA
  split
  · rename_i h0
    unfold addE at h0
    split at h0
    · rename_i hn
      split at h0
      · rename_i hg
        exact h.put hn hg hl
      · omega
    · omega
  · exact h
theorem OkA.do {A : Abs} (h : OkA A) {o f r : Int} {x : R4} (hx : okR x) : OkA (dA A o f r x) := by
  unfold dA
  split
  · exact h
  · rename_i e he
    split
    · rename_i h0
      obtain ⟨hn, hg, hl, hk⟩ := h.find he
      refine h.put hn ?_ (okL_set hl (okR_new hl hx))
      unfold dE at h0
      split at h0
      · rw [he] at h0
        exact good_do h0
      · omega
    · exact h
theorem OkA.set {A : Abs} (h : OkA A) {n r : Int} {x : R4} (hx : okR x) : OkA (sA A n r x) := by
  unfold sA
  split
  · exact h
  · rename_i e he
    split
    · rename_i h0
      obtain ⟨hn, hg, hl, hk⟩ := h.find he
      have : r ≠ 0 ∧ 0 ≤ r := by
        unfold sB gB at h0
        rw [he] at h0
        simp at h0
        omega
      exact h.put hn (good_set hg (by omega)) (okL_set hl hx)
    · exact h
theorem len_do {A : Abs} (h : OkA A) {o f r : Int} {x : R4} : (dA A o f r x).length = A.length := by
  unfold dA
  split
  · rfl
  · rename_i e he
    split
    · exact len_put h.srt (by show (look key f A).isSome = true; rw [he]; rfl)
    · rfl
theorem len_set {A : Abs} (h : OkA A) {n r : Int} {x : R4} : (sA A n r x).length = A.length := by
  unfold sA
  split
  · rfl
  · rename_i e he
    split
    · exact len_put h.srt (by show (look key n A).isSome = true; rw [he]; rfl)
    · rfl

end Go.Proofs.Ytfbhmhgmebaoaaa.Fs
