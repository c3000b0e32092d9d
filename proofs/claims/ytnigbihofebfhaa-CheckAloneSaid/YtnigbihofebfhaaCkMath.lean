/- Lists of tables: the first entry that is so and so, the first list that is so; who sends in a slot; whether tables fit together, as the document has it and as the code looks for it. -/
import Derived.Test.YtnigbihofebfhaaRoList
namespace Go.Proofs.Ytnigbihofebfhaa.Ck
open Go.Proofs.Ytnigbihofebfhaa.Ro (E5 z5 eat mayP mayB okE okAt eat_get eat_mem prevS prev_next okE_bounds)

abbrev LL := List (List E5)
def lat (L : LL) (n : Nat) : List E5 := L.getD n []
theorem lat_cons (t : List E5) (r : LL) (k : Nat) : lat (t :: r) (k + 1) = lat r k := rfl
theorem drop_lat {L : LL} {k : Nat} (h : k < L.length) : L.drop k = lat L k :: L.drop (k + 1) := by
  rw [List.drop_eq_getElem_cons h]
  congr 1
  unfold lat
  rw [List.getD_eq_getElem?_getD, List.getElem?_eq_getElem h]
  rfl
theorem drop_eat {t : List E5} {i : Nat} (h : i < t.length) : t.drop i = eat t i :: t.drop (i + 1) := by
  rw [List.drop_eq_getElem_cons h]
  congr 1
  have := eat_get h
  rw [List.getElem?_eq_getElem h] at this
  exact Option.some.inj this
theorem lat_take {L : LL} {n j : Nat} (h : j < n) : lat (L.take n) j = lat L j := by
  unfold lat
  rw [List.getD_eq_getElem?_getD, List.getD_eq_getElem?_getD, List.getElem?_take, if_pos h]

/-! ### the first entry that is so -/
def scn (p : Nat → E5 → Bool) : Nat → LL → Option (Nat × E5)
  | _, [] => none
  | n, t :: r => match t.find? (p n) with
    | some x => some (n, x)
    | none => scn p (n + 1) r
def whoN (p : Nat → E5 → Bool) (L : LL) : Int := match scn p 0 L with
  | some y => y.1
  | none => -1
def whoE (p : Nat → E5 → Bool) (L : LL) : E5 := match scn p 0 L with
  | some y => y.2
  | none => z5
/-- Nothing is found in the first k lists; nor among the first i entries of the next one. -/
def Ahead (p : Nat → E5 → Bool) (L : LL) (k : Nat) : Prop := scn p 0 L = scn p k (L.drop k)
def Within (p : Nat → E5 → Bool) (L : LL) (k i : Nat) : Prop := Ahead p L k ∧ (lat L k).find? (p k) = ((lat L k).drop i).find? (p k)
section
variable {p : Nat → E5 → Bool} {L : LL} {k i : Nat}
theorem ahead_zero : Ahead p L 0 := rfl
theorem within_zero (h : Ahead p L k) : Within p L k 0 := ⟨h, rfl⟩
theorem within_hit (h : Within p L k i) (hk : k < L.length) (hi : i < (lat L k).length) (hp : p k (eat (lat L k) i) = true) : whoN p L = k ∧ whoE p L = eat (lat L k) i := by
  have e : scn p 0 L = some (k, eat (lat L k) i) := by
    rw [h.1, drop_lat hk]
    simp only [scn, h.2, drop_eat hi, List.find?_cons, hp]
  unfold whoN whoE
  rw [e]
  exact ⟨rfl, rfl⟩
theorem within_next (h : Within p L k i) (hi : i < (lat L k).length) (hp : p k (eat (lat L k) i) = false) : Within p L k (i + 1) := by
  refine ⟨h.1, ?_⟩
  rw [h.2, drop_eat hi, List.find?_cons, hp]
theorem within_end (h : Within p L k (lat L k).length) (hk : k < L.length) : Ahead p L (k + 1) := by
  unfold Ahead
  have e := h.2
  rw [List.drop_length] at e
  rw [h.1, drop_lat hk]
  simp only [scn, e, List.find?_nil]
theorem ahead_end (h : Ahead p L L.length) : whoN p L = -1 ∧ whoE p L = z5 := by
  have e : scn p 0 L = none := by rw [h, List.drop_length]; rfl
  unfold whoN whoE
  rw [e]
  exact ⟨rfl, rfl⟩
end
theorem scn_some {p : Nat → E5 → Bool} : ∀ {L : LL} {n0 n : Nat} {x : E5}, scn p n0 L = some (n, x) → ∃ k, n = n0 + k ∧ k < L.length ∧ x ∈ lat L k ∧ p n x = true ∧ ∀ j, j < k → ∀ y ∈ lat L j, p (n0 + j) y = false
  | [], _, _, _, h => by cases h
  | t :: r, n0, n, x, h => by
    rcases e : t.find? (p n0) with _ | y
    · simp only [scn, e] at h
      obtain ⟨k, e1, h1, h2, h3, h4⟩ := scn_some h
      refine ⟨k + 1, by omega, by simp; omega, h2, h3, fun j hj y hy => ?_⟩
      rcases j with _ | j
      · rw [List.find?_eq_none] at e
        simpa using e y hy
      · have := h4 j (by omega) y hy
        rw [show n0 + (j + 1) = n0 + 1 + j by omega]
        exact this
    · simp only [scn, e, Option.some.injEq, Prod.mk.injEq] at h
      obtain ⟨rfl, rfl⟩ := h
      exact ⟨0, rfl, by simp, List.mem_of_find?_eq_some e, List.find?_some e, fun j hj => absurd hj (Nat.not_lt_zero _)⟩
theorem scn_none {p : Nat → E5 → Bool} : ∀ {L : LL} {n0 : Nat}, scn p n0 L = none → ∀ k, k < L.length → ∀ x ∈ lat L k, p (n0 + k) x = false
  | [], _, _, k, hk => by cases hk
  | t :: r, n0, h, k, hk => by
    rcases e : t.find? (p n0) with _ | y
    · simp only [scn, e] at h
      intro x hx
      rcases k with _ | k
      · rw [List.find?_eq_none] at e
        simpa using e x hx
      · have := scn_none h k (by simpa using hk) x hx
        rw [show n0 + (k + 1) = n0 + 1 + k by omega]
        exact this
    · simp only [scn, e] at h
      cases h
theorem find_congr {p q : E5 → Bool} : ∀ {t : List E5}, (∀ x ∈ t, p x = q x) → t.find? p = t.find? q
  | [], _ => rfl
  | x :: r, h => by rw [List.find?_cons, List.find?_cons, h x (List.mem_cons_self ..), find_congr fun y hy => h y (List.mem_cons_of_mem _ hy)]
theorem scn_congr {p q : Nat → E5 → Bool} : ∀ {L : LL} {n0 : Nat}, (∀ k, k < L.length → ∀ x ∈ lat L k, p (n0 + k) x = q (n0 + k) x) → scn p n0 L = scn q n0 L
  | [], _, _ => rfl
  | t :: r, n0, h => by
    have e : t.find? (p n0) = t.find? (q n0) := find_congr fun x hx => h 0 (by simp) x hx
    have ih := scn_congr (p := p) (q := q) (L := r) (n0 := n0 + 1) fun k hk x hx => by
      have := h (k + 1) (by simp; omega) x hx
      rw [show n0 + 1 + k = n0 + (k + 1) by omega]
      exact this
    simp only [scn, e, ih]
theorem who_cases (p : Nat → E5 → Bool) (L : LL) : (∃ n x, n < L.length ∧ x ∈ lat L n ∧ p n x = true ∧ (∀ m, m < n → ∀ y ∈ lat L m, p m y = false) ∧ whoN p L = n ∧ whoE p L = x) ∨ ((∀ n, n < L.length → ∀ x ∈ lat L n, p n x = false) ∧ whoN p L = -1 ∧ whoE p L = z5) := by
  rcases e : scn p 0 L with _ | ⟨n, x⟩
  · right
    refine ⟨fun n hn x hx => by simpa using scn_none e n hn x hx, ?_, ?_⟩
    · unfold whoN; rw [e]
    · unfold whoE; rw [e]
  · left
    obtain ⟨k, e1, h1, h2, h3, h4⟩ := scn_some e
    obtain rfl : n = k := by omega
    refine ⟨n, x, h1, h2, h3, fun m hm y hy => by simpa using h4 m hm y hy, ?_, ?_⟩
    · unfold whoN; rw [e]
    · unfold whoE; rw [e]
theorem who_congr {p q : Nat → E5 → Bool} {L : LL} (h : ∀ k, k < L.length → ∀ x ∈ lat L k, p k x = q k x) : whoN p L = whoN q L ∧ whoE p L = whoE q L := by
  have e : scn p 0 L = scn q 0 L := scn_congr fun k hk x hx => by simpa using h k hk x hx
  unfold whoN whoE
  rw [e]
  exact ⟨rfl, rfl⟩
theorem who_ge (p : Nat → E5 → Bool) (L : LL) : -1 ≤ whoN p L ∧ whoN p L < L.length := by
  rcases who_cases p L with ⟨n, x, h, _, _, _, e, _⟩ | ⟨_, e, _⟩ <;> omega
theorem who_hit {p : Nat → E5 → Bool} {L : LL} {n : Nat} {x : E5} (hn : n < L.length) (hx : x ∈ lat L n) (hp : p n x = true) : 0 ≤ whoN p L ∧ whoN p L ≤ n := by
  rcases who_cases p L with ⟨m, y, h1, h2, h3, h4, e, _⟩ | ⟨h, e, _⟩
  · rw [e]
    refine ⟨by omega, ?_⟩
    by_cases g : n < m
    · have := h4 n g x hx
      rw [hp] at this
      cases this
    · omega
  · have := h n hn x hx
    rw [hp] at this
    cases this

/-! ### the first list that is so -/
def idx (q : List E5 → Bool) : Nat → LL → Int
  | _, [] => -1
  | n, t :: r => if q t then n else idx q (n + 1) r
def IAhead (q : List E5 → Bool) (L : LL) (k : Nat) : Prop := idx q 0 L = idx q k (L.drop k)
section
variable {q : List E5 → Bool} {L : LL} {k : Nat}
theorem iahead_zero : IAhead q L 0 := rfl
theorem iahead_hit (h : IAhead q L k) (hk : k < L.length) (hq : q (lat L k) = true) : idx q 0 L = k := by
  rw [h, drop_lat hk]
  simp only [idx, hq, if_true]
theorem iahead_next (h : IAhead q L k) (hk : k < L.length) (hq : q (lat L k) = false) : IAhead q L (k + 1) := by
  unfold IAhead
  rw [h, drop_lat hk]
  simp only [idx, hq, Bool.false_eq_true, if_false]
theorem iahead_end (h : IAhead q L L.length) : idx q 0 L = -1 := by rw [h, List.drop_length]; rfl
end
theorem idx_all {q : List E5 → Bool} : ∀ {L : LL} {n : Nat}, idx q n L < 0 → ∀ k, k < L.length → q (lat L k) = false
  | [], _, _, k, hk => by cases hk
  | t :: r, n, h, k, hk => by
    by_cases e : q t = true
    · simp only [idx, e, if_true] at h
      omega
    · simp only [idx, e, Bool.false_eq_true, if_false] at h
      rcases k with _ | k
      · show q t = false
        simpa using e
      · exact idx_all h k (by simpa using hk)

/-! ### who sends; whether they fit -/
def snd (s : Int) (_ : Nat) (x : E5) : Bool := decide (x.1 = 1 ∧ x.2.1 = s)
def sN (s : Int) (L : LL) : Int := whoN (snd s) L
def sE (s : Int) (L : LL) : E5 := whoE (snd s) L
theorem snd_yes {s : Int} {n : Nat} {x : E5} (h1 : x.1 = 1) (h2 : x.2.1 = s) : snd s n x = true := decide_eq_true ⟨h1, h2⟩
theorem snd_no {s : Int} {n : Nat} {x : E5} (h : ¬ (x.1 = 1 ∧ x.2.1 = s)) : snd s n x = false := decide_eq_false h
theorem snd_is {s : Int} {n : Nat} {x : E5} (h : snd s n x = true) : x.1 = 1 ∧ x.2.1 = s := of_decide_eq_true h
theorem sN_take {L : LL} {n : Nat} (hn : n ≤ L.length) (s : Int) : 0 ≤ sN s (L.take n) ↔ 0 ≤ sN s L ∧ sN s L < n := by
  unfold sN
  have hl : (L.take n).length = n := by rw [List.length_take]; omega
  rcases who_cases (snd s) (L.take n) with ⟨m, y, h1, h2, h3, h4, e, _⟩ | ⟨h, e, _⟩
  · rw [hl] at h1
    rw [lat_take h1] at h2
    have g := who_hit (p := snd s) (L := L) (by omega) h2 h3
    constructor
    · intro _; omega
    · intro _; omega
  · constructor
    · intro g; omega
    · intro ⟨g1, g2⟩
      rcases who_cases (snd s) L with ⟨m, y, h1, h2, h3, h4, e', _⟩ | ⟨_, e', _⟩
      · have hm : m < n := by omega
        have := h m (by omega) y (by rw [lat_take hm]; exact h2)
        rw [h3] at this
        cases this
      · omega
def bad (t : List E5) : Bool := !mayB t
def bI (L : LL) : Int := idx bad 0 L
/-- It sends where one ahead does; it receives where nobody sends: as the document has it, and as the code looks for it. -/
def pc (L : LL) (n : Nat) (x : E5) : Bool := decide (x.1 = 1 ∧ 0 ≤ sN x.2.1 (L.take n))
def pg (L : LL) (_ : Nat) (x : E5) : Bool := decide (x.1 = 2 ∧ sN x.2.1 L < 0)
def qc (F : Nat → Int) (n : Nat) (x : E5) : Bool := decide (x.1 = 1 ∧ ¬ F x.2.1.toNat = n)
def qg (F : Nat → Int) (_ : Nat) (x : E5) : Bool := decide (x.1 = 2 ∧ F x.2.1.toNat < 0)
def clN (L : LL) : Int := whoN (pc L) L
def gaN (L : LL) : Int := whoN (pg L) L
def sF (L : LL) (s : Nat) : Int := sN s L
def tN (L : LL) : Int := if 0 ≤ bI L then bI L else if 0 ≤ clN L then clN L else if 0 ≤ gaN L then gaN L else -1
def tE (L : LL) : Int := if 0 ≤ bI L then 2 else if 0 ≤ clN L then 8 else if 0 ≤ gaN L then 9 else 0
theorem t_form {L : LL} (h : 0 ≤ bI L) : tN L = bI L ∧ tE L = 2 := by unfold tN tE; rw [if_pos h, if_pos h]; exact ⟨rfl, rfl⟩
theorem t_clash {L : LL} (h : ¬ 0 ≤ bI L) (h2 : 0 ≤ clN L) : tN L = clN L ∧ tE L = 8 := by unfold tN tE; rw [if_neg h, if_neg h, if_pos h2, if_pos h2]; exact ⟨rfl, rfl⟩
theorem t_gap {L : LL} (h : ¬ 0 ≤ bI L) (h2 : ¬ 0 ≤ clN L) (h3 : 0 ≤ gaN L) : tN L = gaN L ∧ tE L = 9 := by unfold tN tE; rw [if_neg h, if_neg h, if_neg h2, if_neg h2, if_pos h3, if_pos h3]; exact ⟨rfl, rfl⟩
theorem t_ok {L : LL} (h : ¬ 0 ≤ bI L) (h2 : ¬ 0 ≤ clN L) (h3 : ¬ 0 ≤ gaN L) : tN L = -1 ∧ tE L = 0 := by unfold tN tE; rw [if_neg h, if_neg h, if_neg h2, if_neg h2, if_neg h3, if_neg h3]; exact ⟨rfl, rfl⟩
theorem may_all {L : LL} (h : ¬ 0 ≤ bI L) : ∀ k, k < L.length → mayP (lat L k) := fun k hk => by
  have := idx_all (q := bad) (L := L) (n := 0) (by unfold bI at h; omega) k hk
  unfold bad mayB at this
  simpa using this
theorem may_slot {t : List E5} (h : mayP t) {x : E5} (hx : x ∈ t) : 0 ≤ x.2.1 ∧ x.2.1 ≤ 16 := (okE_bounds (Ro.may_each h x hx).1).2.1
theorem clash_same {L : LL} (h : ¬ 0 ≤ bI L) : whoN (qc (sF L)) L = clN L := by
  refine (who_congr fun k hk x hx => ?_).1
  have b := may_slot (may_all h k hk) hx
  unfold qc pc sF
  rw [show ((x.2.1.toNat : Nat) : Int) = x.2.1 by omega]
  by_cases h1 : x.1 = 1
  · have g := who_hit (p := snd x.2.1) hk hx (snd_yes h1 rfl)
    have t := sN_take (L := L) (n := k) (by omega) x.2.1
    unfold sN at t ⊢
    apply decide_eq_decide.2
    constructor
    · intro ⟨_, a⟩; exact ⟨h1, t.2 ⟨g.1, by omega⟩⟩
    · intro ⟨_, a⟩; have := t.1 a; exact ⟨h1, by omega⟩
  · simp [h1]
theorem gap_same {L : LL} (h : ¬ 0 ≤ bI L) : whoN (qg (sF L)) L = gaN L := by
  refine (who_congr fun k hk x hx => ?_).1
  have b := may_slot (may_all h k hk) hx
  unfold qg pg sF
  rw [show ((x.2.1.toNat : Nat) : Int) = x.2.1 by omega]

/-! ### how many send, and receive, where they fit -/
def rcv (s : Int) (x : E5) : Bool := decide (x.1 = 2 ∧ x.2.1 = s)
def snd1 (s : Int) (x : E5) : Bool := decide (x.1 = 1 ∧ x.2.1 = s)
/-- How many entries of the first k lists, and of the first i of the next one, are so. -/
def cnt (p : E5 → Bool) (L : LL) (k i : Nat) : Nat := ((L.take k).flatten).countP p + ((lat L k).take i).countP p
def all (p : E5 → Bool) (L : LL) : Nat := L.flatten.countP p
section
variable {p : E5 → Bool} {L : LL} {k i : Nat}
theorem cnt_zero : cnt p L 0 0 = 0 := by simp [cnt]
theorem cnt_yes (hi : i < (lat L k).length) (h : p (eat (lat L k) i) = true) : cnt p L k (i + 1) = cnt p L k i + 1 := by
  unfold cnt
  rw [Ro.take_next hi, List.countP_append, List.countP_singleton, if_pos h]
  omega
theorem cnt_no (hi : i < (lat L k).length) (h : p (eat (lat L k) i) = false) : cnt p L k (i + 1) = cnt p L k i := by
  unfold cnt
  rw [Ro.take_next hi, List.countP_append, List.countP_singleton, if_neg (by simp [h])]
  omega
theorem take_lat (hk : k < L.length) : L.take (k + 1) = L.take k ++ [lat L k] := by
  rw [List.take_add_one]
  unfold lat
  rw [List.getD_eq_getElem?_getD, List.getElem?_eq_getElem hk]
  rfl
theorem cnt_next (hk : k < L.length) : cnt p L k (lat L k).length = cnt p L (k + 1) 0 := by
  unfold cnt
  rw [take_lat hk]
  simp
theorem cnt_end : cnt p L L.length 0 = all p L := by simp [cnt, all]
theorem cnt_le (hL : ∀ j, j < L.length → (lat L j).length ≤ 70) : ∀ k, k ≤ L.length → ((L.take k).flatten).countP p ≤ 70 * k
  | 0, _ => by simp
  | k + 1, hk => by
    have ih := cnt_le hL k (by omega)
    have := List.countP_le_length (p := p) (l := lat L k)
    have := hL k (by omega)
    rw [take_lat (by omega), List.flatten_append, List.countP_append]
    simp only [List.flatten_cons, List.flatten_nil, List.append_nil]
    omega
end
theorem slot_lt {t : List E5} (h : mayP t) (i : Nat) : ∀ d, i + d + 1 < t.length → (eat t i).2.1 < (eat t (i + d + 1)).2.1
  | 0, hd => by
    have := (h (i + 1) (by omega)).2
    rw [prev_next] at this
    exact this
  | d + 1, hd => by
    have ih := slot_lt h i d (by omega)
    have := (h (i + d + 1 + 1) (by omega)).2
    rw [prev_next] at this
    have e : i + (d + 1) + 1 = i + d + 1 + 1 := by omega
    rw [e]
    omega
theorem pair_one {s : Int} {p : E5 → Bool} (hp : ∀ x, p x = true → x.2.1 = s) : ∀ {t : List E5}, t.Pairwise (fun x y => x.2.1 < y.2.1) → t.countP p ≤ 1
  | [], _ => by simp
  | x :: r, h => by
    obtain ⟨h1, h2⟩ := List.pairwise_cons.1 h
    have ih := pair_one hp h2
    rw [List.countP_cons]
    by_cases e : p x = true
    · have z : r.countP p = 0 := by
        rw [List.countP_eq_zero]
        intro y hy g
        have := h1 y hy
        rw [hp x e, hp y g] at this
        omega
      rw [z, if_pos e]
      omega
    · rw [if_neg e]
      omega
theorem may_one {t : List E5} (h : mayP t) (s : Int) : t.countP (snd1 s) ≤ 1 := by
  refine pair_one (s := s) (fun x hx => (of_decide_eq_true hx).2) ?_
  rw [List.pairwise_iff_getElem]
  intro i j hi hj hij
  have e := slot_lt h i (j - i - 1) (by omega)
  rw [show i + (j - i - 1) + 1 = j by omega] at e
  have e1 := eat_get hi
  have e2 := eat_get hj
  rw [List.getElem?_eq_getElem hi] at e1
  rw [List.getElem?_eq_getElem hj] at e2
  rw [Option.some.inj e1, Option.some.inj e2]
  exact e
theorem mem_flat {L : LL} {x : E5} : x ∈ L.flatten ↔ ∃ n, n < L.length ∧ x ∈ lat L n := by
  rw [List.mem_flatten]
  constructor
  · rintro ⟨t, ht, hx⟩
    obtain ⟨n, hn, rfl⟩ := List.getElem_of_mem ht
    refine ⟨n, hn, ?_⟩
    unfold lat
    rw [List.getD_eq_getElem?_getD, List.getElem?_eq_getElem hn]
    exact hx
  · rintro ⟨n, hn, hx⟩
    refine ⟨lat L n, ?_, hx⟩
    unfold lat
    rw [List.getD_eq_getElem?_getD, List.getElem?_eq_getElem hn]
    exact List.getElem_mem hn
theorem some_sends {L : LL} (s : Int) : 0 < all (snd1 s) L ↔ 0 ≤ sN s L := by
  unfold all sN
  rw [List.countP_pos_iff]
  constructor
  · rintro ⟨x, hx, hp⟩
    obtain ⟨n, hn, hx⟩ := mem_flat.1 hx
    exact (who_hit (p := snd s) hn hx hp).1
  · intro h
    rcases who_cases (snd s) L with ⟨n, x, h1, h2, h3, _⟩ | ⟨_, e, _⟩
    · exact ⟨x, mem_flat.2 ⟨n, h1, h2⟩, h3⟩
    · omega
theorem one_sends {L : LL} (h : ¬ 0 ≤ bI L) (h2 : ¬ 0 ≤ clN L) (s : Int) : ∀ k, k ≤ L.length → all (snd1 s) (L.take k) ≤ 1
  | 0, _ => by simp [all]
  | k + 1, hk => by
    have ih := one_sends h h2 s k (by omega)
    have o := may_one (may_all h k (by omega)) s
    have g := some_sends (L := L.take k) s
    have e : all (snd1 s) (L.take (k + 1)) = all (snd1 s) (L.take k) + (lat L k).countP (snd1 s) := by
      unfold all
      rw [take_lat (by omega), List.flatten_append, List.countP_append]
      simp
    rw [e]
    by_cases z : 0 < (lat L k).countP (snd1 s)
    · obtain ⟨x, hx, hp⟩ := List.countP_pos_iff.1 z
      obtain ⟨p1, p2⟩ := of_decide_eq_true hp
      have : ¬ 0 < all (snd1 s) (L.take k) := fun y => by
        have y' := g.1 y
        refine h2 (who_hit (p := pc L) (by omega) hx ?_).1
        exact decide_eq_true ⟨p1, by rw [p2]; exact y'⟩
      omega
    · omega
/-- Where they fit: of each slot one sends at most; one sends where somebody receives; and who sends is who is found. -/
theorem fits {L : LL} (h : tE L = 0) (s : Int) : all (snd1 s) L ≤ 1 ∧ (0 < all (rcv s) L → all (snd1 s) L = 1) ∧ (0 ≤ sN s L ↔ all (snd1 s) L = 1) ∧ (all (snd1 s) L = 1 → (sE s L).2.1 = s) := by
  unfold tE at h
  by_cases h1 : 0 ≤ bI L
  · rw [if_pos h1] at h; cases h
  · rw [if_neg h1] at h
    by_cases h2 : 0 ≤ clN L
    · rw [if_pos h2] at h; cases h
    · rw [if_neg h2] at h
      by_cases h3 : 0 ≤ gaN L
      · rw [if_pos h3] at h; cases h
      · have o := one_sends h1 h2 s L.length (Nat.le_refl _)
        rw [List.take_length] at o
        have g := some_sends (L := L) s
        refine ⟨o, fun r => ?_, ⟨fun a => by have := g.2 a; omega, fun a => g.1 (by omega)⟩, fun a => ?_⟩
        · obtain ⟨x, hx, hp⟩ := List.countP_pos_iff.1 (show 0 < L.flatten.countP (rcv s) from r)
          obtain ⟨n, hn, hx⟩ := mem_flat.1 hx
          obtain ⟨p1, p2⟩ := of_decide_eq_true hp
          by_cases y : 0 ≤ sN s L
          · have := g.2 y; omega
          · exfalso
            refine h3 (who_hit (p := pg L) hn hx ?_).1
            exact decide_eq_true ⟨p1, by rw [p2]; omega⟩
        · have y := g.1 (by omega)
          unfold sN at y
          unfold sE
          rcases who_cases (snd s) L with ⟨n, x, _, _, p3, _, _, e⟩ | ⟨_, e, _⟩
          · rw [e]
            exact (snd_is p3).2
          · omega

/-- At most twelve tables, of at most seventy entries each. -/
def fewL (L : LL) : LL := (L.take 12).map (·.take 70)
theorem few_len (L : LL) : (fewL L).length ≤ 12 := by simp [fewL, List.length_take]; omega
theorem few_lat {L : LL} {k : Nat} (h : k < 12) : lat (fewL L) k = (lat L k).take 70 := by
  unfold fewL lat
  rw [List.getD_eq_getElem?_getD, List.getElem?_map, List.getElem?_take, if_pos h, List.getD_eq_getElem?_getD]
  rcases L[k]? with _ | t <;> simp
theorem few_each (L : LL) (k : Nat) (h : k < (fewL L).length) : (lat (fewL L) k).length ≤ 70 := by
  have := few_len L
  rw [few_lat (by omega), List.length_take]
  omega

end Go.Proofs.Ytnigbihofebfhaa.Ck
