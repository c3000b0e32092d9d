/- Texts joined: CkMath, UaMath, PaMath, PaRnd, FsMem, FsSmall, FsGet, FsSto, FsSet, FsAdd. -/
import Derived.Test.YtilacdjekdngkaaGreatDoorMg2
import Derived.WalkKit
import Derived.Test.YtilacdjekdngkaaGreatDoorMg1
import Derived.LoopTactic
import Derived.Outline
import Derived.Maps.OwnOps
import Derived.WalkSpells

/- Lists of tables: the first entry that is so and so, the first list that is so; who sends in a slot; whether tables fit together, as the document has it and as the code looks for it. -/
namespace Go.Proofs.YtilacdjekdngkaaGreatDoor.Ck
open Go.Proofs.YtilacdjekdngkaaGreatDoor.Ro (E5 z5 eat mayP mayB okE okAt eat_get eat_mem prevS prev_next okE_bounds)

abbrev LL := List (List E5)
def lat (L : LL) (n : Nat) : List E5 := L.getD n []
theorem lat_cons (t : List E5) (r : LL) (k : Nat) : lat (t :: r) (k + 1) = lat r k := rfl
theorem drop_lat {L : LL} {k : Nat} (h : k < L.length) : L.drop k = lat L k :: L.drop (k + 1) := by
  rw [List.drop_eq_getElem_cons h]
  congr 1
  unfold lat
  rw [List.getD_eq_getElem?_getD, List.getElem?_eq_getElem h]
  rfl
theorem drop_eat {t : List E5} {i : Nat} (h : i < t.length) : t.drop i = eat t i :: t.drop (i + 1) := by
  rw [List.drop_eq_getElem_cons h]
  congr 1
  have := eat_get h
  rw [List.getElem?_eq_getElem h] at this
  exact Option.some.inj this
theorem lat_take {L : LL} {n j : Nat} (h : j < n) : lat (L.take n) j = lat L j := by
  unfold lat
  rw [List.getD_eq_getElem?_getD, List.getD_eq_getElem?_getD, List.getElem?_take, if_pos h]

/-! ### the first entry that is so -/
def scn (p : Nat → E5 → Bool) : Nat → LL → Option (Nat × E5)
  | _, [] => none
  | n, t :: r => match t.find? (p n) with
    | some x => some (n, x)
    | none => scn p (n + 1) r
def whoN (p : Nat → E5 → Bool) (L : LL) : Int := match scn p 0 L with
  | some y => y.1
  | none => -1
def whoE (p : Nat → E5 → Bool) (L : LL) : E5 := match scn p 0 L with
  | some y => y.2
  | none => z5
/-- Nothing is found in the first k lists; nor among the first i entries of the next one. -/
def Ahead (p : Nat → E5 → Bool) (L : LL) (k : Nat) : Prop := scn p 0 L = scn p k (L.drop k)
def Within (p : Nat → E5 → Bool) (L : LL) (k i : Nat) : Prop := Ahead p L k ∧ (lat L k).find? (p k) = ((lat L k).drop i).find? (p k)
section
variable {p : Nat → E5 → Bool} {L : LL} {k i : Nat}
theorem ahead_zero : Ahead p L 0 := rfl
theorem within_zero (h : Ahead p L k) : Within p L k 0 := ⟨h, rfl⟩
theorem within_hit (h : Within p L k i) (hk : k < L.length) (hi : i < (lat L k).length) (hp : p k (eat (lat L k) i) = true) : whoN p L = k ∧ whoE p L = eat (lat L k) i := by
  have e : scn p 0 L = some (k, eat (lat L k) i) := by
    rw [h.1, drop_lat hk]
    simp only [scn, h.2, drop_eat hi, List.find?_cons, hp]
  unfold whoN whoE
  rw [e]
  exact ⟨rfl, rfl⟩
theorem within_next (h : Within p L k i) (hi : i < (lat L k).length) (hp : p k (eat (lat L k) i) = false) : Within p L k (i + 1) := by
  refine ⟨h.1, ?_⟩
  rw [h.2, drop_eat hi, List.find?_cons, hp]
theorem within_end (h : Within p L k (lat L k).length) (hk : k < L.length) : Ahead p L (k + 1) := by
  unfold Ahead
  have e := h.2
  rw [List.drop_length] at e
  rw [h.1, drop_lat hk]
  simp only [scn, e, List.find?_nil]
theorem ahead_end (h : Ahead p L L.length) : whoN p L = -1 ∧ whoE p L = z5 := by
  have e : scn p 0 L = none := by rw [h, List.drop_length]; rfl
  unfold whoN whoE
  rw [e]
  exact ⟨rfl, rfl⟩
end
theorem scn_some {p : Nat → E5 → Bool} : ∀ {L : LL} {n0 n : Nat} {x : E5}, scn p n0 L = some (n, x) → ∃ k, n = n0 + k ∧ k < L.length ∧ x ∈ lat L k ∧ p n x = true ∧ ∀ j, j < k → ∀ y ∈ lat L j, p (n0 + j) y = false
  | [], _, _, _, h => by cases h
  | t :: r, n0, n, x, h => by
    rcases e : t.find? (p n0) with _ | y
    · simp only [scn, e] at h
      obtain ⟨k, e1, h1, h2, h3, h4⟩ := scn_some h
      refine ⟨k + 1, by omega, by simp; omega, h2, h3, fun j hj y hy => ?_⟩
      rcases j with _ | j
      · rw [List.find?_eq_none] at e
        simpa using e y hy
      · have := h4 j (by omega) y hy
        rw [show n0 + (j + 1) = n0 + 1 + j by omega]
        exact this
    · simp only [scn, e, Option.some.injEq, Prod.mk.injEq] at h
      obtain ⟨rfl, rfl⟩ := h
      exact ⟨0, rfl, by simp, List.mem_of_find?_eq_some e, List.find?_some e, fun j hj => absurd hj (Nat.not_lt_zero _)⟩
theorem scn_none {p : Nat → E5 → Bool} : ∀ {L : LL} {n0 : Nat}, scn p n0 L = none → ∀ k, k < L.length → ∀ x ∈ lat L k, p (n0 + k) x = false
  | [], _, _, k, hk => by cases hk
  | t :: r, n0, h, k, hk => by
    rcases e : t.find? (p n0) with _ | y
    · simp only [scn, e] at h
      intro x hx
      rcases k with _ | k
      · rw [List.find?_eq_none] at e
        simpa using e x hx
      · have := scn_none h k (by simpa using hk) x hx
        rw [show n0 + (k + 1) = n0 + 1 + k by omega]
        exact this
    · simp only [scn, e] at h
      cases h
theorem find_congr {p q : E5 → Bool} : ∀ {t : List E5}, (∀ x ∈ t, p x = q x) → t.find? p = t.find? q
  | [], _ => rfl
  | x :: r, h => by rw [List.find?_cons, List.find?_cons, h x (List.mem_cons_self ..), find_congr fun y hy => h y (List.mem_cons_of_mem _ hy)]
theorem scn_congr {p q : Nat → E5 → Bool} : ∀ {L : LL} {n0 : Nat}, (∀ k, k < L.length → ∀ x ∈ lat L k, p (n0 + k) x = q (n0 + k) x) → scn p n0 L = scn q n0 L
  | [], _, _ => rfl
  | t :: r, n0, h => by
    have e : t.find? (p n0) = t.find? (q n0) := find_congr fun x hx => h 0 (by simp) x hx
    have ih := scn_congr (p := p) (q := q) (L := r) (n0 := n0 + 1) fun k hk x hx => by
      have := h (k + 1) (by simp; omega) x hx
      rw [show n0 + 1 + k = n0 + (k + 1) by omega]
      exact this
    simp only [scn, e, ih]
theorem who_cases (p : Nat → E5 → Bool) (L : LL) : (∃ n x, n < L.length ∧ x ∈ lat L n ∧ p n x = true ∧ (∀ m, m < n → ∀ y ∈ lat L m, p m y = false) ∧ whoN p L = n ∧ whoE p L = x) ∨ ((∀ n, n < L.length → ∀ x ∈ lat L n, p n x = false) ∧ whoN p L = -1 ∧ whoE p L = z5) := by
  rcases e : scn p 0 L with _ | ⟨n, x⟩
  · right
    refine ⟨fun n hn x hx => by simpa using scn_none e n hn x hx, ?_, ?_⟩
    · unfold whoN; rw [e]
    · unfold whoE; rw [e]
  · left
    obtain ⟨k, e1, h1, h2, h3, h4⟩ := scn_some e
    obtain rfl : n = k := by omega
    refine ⟨n, x, h1, h2, h3, fun m hm y hy => by simpa using h4 m hm y hy, ?_, ?_⟩
    · unfold whoN; rw [e]
    · unfold whoE; rw [e]
theorem who_congr {p q : Nat → E5 → Bool} {L : LL} (h : ∀ k, k < L.length → ∀ x ∈ lat L k, p k x = q k x) : whoN p L = whoN q L ∧ whoE p L = whoE q L := by
  have e : scn p 0 L = scn q 0 L := scn_congr fun k hk x hx => by simpa using h k hk x hx
  unfold whoN whoE
  rw [e]
  exact ⟨rfl, rfl⟩
theorem who_ge (p : Nat → E5 → Bool) (L : LL) : -1 ≤ whoN p L ∧ whoN p L < L.length := by
  rcases who_cases p L with ⟨n, x, h, _, _, _, e, _⟩ | ⟨_, e, _⟩ <;> omega
theorem who_hit {p : Nat → E5 → Bool} {L : LL} {n : Nat} {x : E5} (hn : n < L.length) (hx : x ∈ lat L n) (hp : p n x = true) : 0 ≤ whoN p L ∧ whoN p L ≤ n := by
  rcases who_cases p L with ⟨m, y, h1, h2, h3, h4, e, _⟩ | ⟨h, e, _⟩
  · rw [e]
    refine ⟨by omega, ?_⟩
    by_cases g : n < m
    · have := h4 n g x hx
      rw [hp] at this
      cases this
    · omega
  · have := h n hn x hx
    rw [hp] at this
    cases this

/-! ### the first list that is so -/
def idx (q : List E5 → Bool) : Nat → LL → Int
  | _, [] => -1
  | n, t :: r => if q t then n else idx q (n + 1) r
def IAhead (q : List E5 → Bool) (L : LL) (k : Nat) : Prop := idx q 0 L = idx q k (L.drop k)
section
variable {q : List E5 → Bool} {L : LL} {k : Nat}
theorem iahead_zero : IAhead q L 0 := rfl
theorem iahead_hit (h : IAhead q L k) (hk : k < L.length) (hq : q (lat L k) = true) : idx q 0 L = k := by
  rw [h, drop_lat hk]
  simp only [idx, hq, if_true]
theorem iahead_next (h : IAhead q L k) (hk : k < L.length) (hq : q (lat L k) = false) : IAhead q L (k + 1) := by
  unfold IAhead
  rw [h, drop_lat hk]
  simp only [idx, hq, Bool.false_eq_true, if_false]
theorem iahead_end (h : IAhead q L L.length) : idx q 0 L = -1 := by rw [h, List.drop_length]; rfl
end
theorem idx_all {q : List E5 → Bool} : ∀ {L : LL} {n : Nat}, idx q n L < 0 → ∀ k, k < L.length → q (lat L k) = false
  | [], _, _, k, hk => by cases hk
  | t :: r, n, h, k, hk => by
    by_cases e : q t = true
    · simp only [idx, e, if_true] at h
      omega
    · simp only [idx, e, Bool.false_eq_true, if_false] at h
      rcases k with _ | k
      · show q t = false
        simpa using e
      · exact idx_all h k (by simpa using hk)

/-! ### who sends; whether they fit -/
def snd (s : Int) (_ : Nat) (x : E5) : Bool := decide (x.1 = 1 ∧ x.2.1 = s)
def sN (s : Int) (L : LL) : Int := whoN (snd s) L
def sE (s : Int) (L : LL) : E5 := whoE (snd s) L
theorem snd_yes {s : Int} {n : Nat} {x : E5} (h1 : x.1 = 1) (h2 : x.2.1 = s) : snd s n x = true := decide_eq_true ⟨h1, h2⟩
theorem snd_no {s : Int} {n : Nat} {x : E5} (h : ¬ (x.1 = 1 ∧ x.2.1 = s)) : snd s n x = false := decide_eq_false h
theorem snd_is {s : Int} {n : Nat} {x : E5} (h : snd s n x = true) : x.1 = 1 ∧ x.2.1 = s := of_decide_eq_true h
theorem sN_take {L : LL} {n : Nat} (hn : n ≤ L.length) (s : Int) : 0 ≤ sN s (L.take n) ↔ 0 ≤ sN s L ∧ sN s L < n := by
  unfold sN
  have hl : (L.take n).length = n := by rw [List.length_take]; omega
  rcases who_cases (snd s) (L.take n) with ⟨m, y, h1, h2, h3, h4, e, _⟩ | ⟨h, e, _⟩
  · rw [hl] at h1
    rw [lat_take h1] at h2
    have g := who_hit (p := snd s) (L := L) (by omega) h2 h3
    constructor
    · intro _; omega
    · intro _; omega
  · constructor
    · intro g; omega
    · intro ⟨g1, g2⟩
      rcases who_cases (snd s) L with ⟨m, y, h1, h2, h3, h4, e', _⟩ | ⟨_, e', _⟩
      · have hm : m < n := by omega
        have := h m (by omega) y (by rw [lat_take hm]; exact h2)
        rw [h3] at this
        cases this
      · omega
def bad (t : List E5) : Bool := !mayB t
def bI (L : LL) : Int := idx bad 0 L
/-- It sends where one ahead does; it receives where nobody sends: as the document has it, and as the code looks for it. -/
def pc (L : LL) (n : Nat) (x : E5) : Bool := decide (x.1 = 1 ∧ 0 ≤ sN x.2.1 (L.take n))
def pg (L : LL) (_ : Nat) (x : E5) : Bool := decide (x.1 = 2 ∧ sN x.2.1 L < 0)
def qc (F : Nat → Int) (n : Nat) (x : E5) : Bool := decide (x.1 = 1 ∧ ¬ F x.2.1.toNat = n)
def qg (F : Nat → Int) (_ : Nat) (x : E5) : Bool := decide (x.1 = 2 ∧ F x.2.1.toNat < 0)
def clN (L : LL) : Int := whoN (pc L) L
def gaN (L : LL) : Int := whoN (pg L) L
def sF (L : LL) (s : Nat) : Int := sN s L
def tN (L : LL) : Int := if 0 ≤ bI L then bI L else if 0 ≤ clN L then clN L else if 0 ≤ gaN L then gaN L else -1
def tE (L : LL) : Int := if 0 ≤ bI L then 2 else if 0 ≤ clN L then 8 else if 0 ≤ gaN L then 9 else 0
theorem t_form {L : LL} (h : 0 ≤ bI L) : tN L = bI L ∧ tE L = 2 := by unfold tN tE; rw [if_pos h, if_pos h]; exact ⟨rfl, rfl⟩
theorem t_clash {L : LL} (h : ¬ 0 ≤ bI L) (h2 : 0 ≤ clN L) : tN L = clN L ∧ tE L = 8 := by unfold tN tE; rw [if_neg h, if_neg h, if_pos h2, if_pos h2]; exact ⟨rfl, rfl⟩
theorem t_gap {L : LL} (h : ¬ 0 ≤ bI L) (h2 : ¬ 0 ≤ clN L) (h3 : 0 ≤ gaN L) : tN L = gaN L ∧ tE L = 9 := by unfold tN tE; rw [if_neg h, if_neg h, if_neg h2, if_neg h2, if_pos h3, if_pos h3]; exact ⟨rfl, rfl⟩
theorem t_ok {L : LL} (h : ¬ 0 ≤ bI L) (h2 : ¬ 0 ≤ clN L) (h3 : ¬ 0 ≤ gaN L) : tN L = -1 ∧ tE L = 0 := by unfold tN tE; rw [if_neg h, if_neg h, if_neg h2, if_neg h2, if_neg h3, if_neg h3]; exact ⟨rfl, rfl⟩
theorem may_all {L : LL} (h : ¬ 0 ≤ bI L) : ∀ k, k < L.length → mayP (lat L k) := fun k hk => by
  have := idx_all (q := bad) (L := L) (n := 0) (by unfold bI at h; omega) k hk
  unfold bad mayB at this
  simpa using this
theorem may_slot {t : List E5} (h : mayP t) {x : E5} (hx : x ∈ t) : 0 ≤ x.2.1 ∧ x.2.1 ≤ 16 := (okE_bounds (Ro.may_each h x hx).1).2.1
theorem clash_same {L : LL} (h : ¬ 0 ≤ bI L) : whoN (qc (sF L)) L = clN L := by
  refine (who_congr fun k hk x hx => ?_).1
  have b := may_slot (may_all h k hk) hx
  unfold qc pc sF
  rw [show ((x.2.1.toNat : Nat) : Int) = x.2.1 by omega]
  by_cases h1 : x.1 = 1
  · have g := who_hit (p := snd x.2.1) hk hx (snd_yes h1 rfl)
    have t := sN_take (L := L) (n := k) (by omega) x.2.1
    unfold sN at t ⊢
    apply decide_eq_decide.2
    constructor
    · intro ⟨_, a⟩; exact ⟨h1, t.2 ⟨g.1, by omega⟩⟩
    · intro ⟨_, a⟩; have := t.1 a; exact ⟨h1, by omega⟩
  · simp [h1]
theorem gap_same {L : LL} (h : ¬ 0 ≤ bI L) : whoN (qg (sF L)) L = gaN L := by
  refine (who_congr fun k hk x hx => ?_).1
  have b := may_slot (may_all h k hk) hx
  unfold qg pg sF
  rw [show ((x.2.1.toNat : Nat) : Int) = x.2.1 by omega]

/-! ### how many send, and receive, where they fit -/
def rcv (s : Int) (x : E5) : Bool := decide (x.1 = 2 ∧ x.2.1 = s)
def snd1 (s : Int) (x : E5) : Bool := decide (x.1 = 1 ∧ x.2.1 = s)
/-- How many entries of the first k lists, and of the first i of the next one, are so. -/
def cnt (p : E5 → Bool) (L : LL) (k i : Nat) : Nat := ((L.take k).flatten).countP p + ((lat L k).take i).countP p
def all (p : E5 → Bool) (L : LL) : Nat := L.flatten.countP p
section
variable {p : E5 → Bool} {L : LL} {k i : Nat}
theorem cnt_zero : cnt p L 0 0 = 0 := by simp [cnt]
theorem cnt_yes (hi : i < (lat L k).length) (h : p (eat (lat L k) i) = true) : cnt p L k (i + 1) = cnt p L k i + 1 := by
  unfold cnt
  rw [Ro.take_next hi, List.countP_append, List.countP_singleton, if_pos h]
  omega
theorem cnt_no (hi : i < (lat L k).length) (h : p (eat (lat L k) i) = false) : cnt p L k (i + 1) = cnt p L k i := by
  unfold cnt
  rw [Ro.take_next hi, List.countP_append, List.countP_singleton, if_neg (by simp [h])]
  omega
theorem take_lat (hk : k < L.length) : L.take (k + 1) = L.take k ++ [lat L k] := by
  rw [List.take_add_one]
  unfold lat
  rw [List.getD_eq_getElem?_getD, List.getElem?_eq_getElem hk]
  rfl
theorem cnt_next (hk : k < L.length) : cnt p L k (lat L k).length = cnt p L (k + 1) 0 := by
  unfold cnt
  rw [take_lat hk]
  simp
theorem cnt_end : cnt p L L.length 0 = all p L := by simp [cnt, all]
theorem cnt_le (hL : ∀ j, j < L.length → (lat L j).length ≤ 70) : ∀ k, k ≤ L.length → ((L.take k).flatten).countP p ≤ 70 * k
  | 0, _ => by simp
  | k + 1, hk => by
    have ih := cnt_le hL k (by omega)
    have := List.countP_le_length (p := p) (l := lat L k)
    have := hL k (by omega)
    rw [take_lat (by omega), List.flatten_append, List.countP_append]
    simp only [List.flatten_cons, List.flatten_nil, List.append_nil]
    omega
end
theorem slot_lt {t : List E5} (h : mayP t) (i : Nat) : ∀ d, i + d + 1 < t.length → (eat t i).2.1 < (eat t (i + d + 1)).2.1
  | 0, hd => by
    have := (h (i + 1) (by omega)).2
    rw [prev_next] at this
    exact this
  | d + 1, hd => by
    have ih := slot_lt h i d (by omega)
    have := (h (i + d + 1 + 1) (by omega)).2
    rw [prev_next] at this
    have e : i + (d + 1) + 1 = i + d + 1 + 1 := by omega
    rw [e]
    omega
theorem pair_one {s : Int} {p : E5 → Bool} (hp : ∀ x, p x = true → x.2.1 = s) : ∀ {t : List E5}, t.Pairwise (fun x y => x.2.1 < y.2.1) → t.countP p ≤ 1
  | [], _ => by simp
  | x :: r, h => by
    obtain ⟨h1, h2⟩ := List.pairwise_cons.1 h
    have ih := pair_one hp h2
    rw [List.countP_cons]
    by_cases e : p x = true
    · have z : r.countP p = 0 := by
        rw [List.countP_eq_zero]
        intro y hy g
        have := h1 y hy
        rw [hp x e, hp y g] at this
        omega
      rw [z, if_pos e]
      omega
    · rw [if_neg e]
      omega
theorem may_one {t : List E5} (h : mayP t) (s : Int) : t.countP (snd1 s) ≤ 1 := by
  refine pair_one (s := s) (fun x hx => (of_decide_eq_true hx).2) ?_
  rw [List.pairwise_iff_getElem]
  intro i j hi hj hij
  have e := slot_lt h i (j - i - 1) (by omega)
  rw [show i + (j - i - 1) + 1 = j by omega] at e
  have e1 := eat_get hi
  have e2 := eat_get hj
  rw [List.getElem?_eq_getElem hi] at e1
  rw [List.getElem?_eq_getElem hj] at e2
  rw [Option.some.inj e1, Option.some.inj e2]
  exact e
theorem mem_flat {L : LL} {x : E5} : x ∈ L.flatten ↔ ∃ n, n < L.length ∧ x ∈ lat L n := by
  rw [List.mem_flatten]
  constructor
  · rintro ⟨t, ht, hx⟩
    obtain ⟨n, hn, rfl⟩ := List.getElem_of_mem ht
    refine ⟨n, hn, ?_⟩
    unfold lat
    rw [List.getD_eq_getElem?_getD, List.getElem?_eq_getElem hn]
    exact hx
  · rintro ⟨n, hn, hx⟩
    refine ⟨lat L n, ?_, hx⟩
    unfold lat
    rw [List.getD_eq_getElem?_getD, List.getElem?_eq_getElem hn]
    exact List.getElem_mem hn
theorem some_sends {L : LL} (s : Int) : 0 < all (snd1 s) L ↔ 0 ≤ sN s L := by
  unfold all sN
  rw [List.countP_pos_iff]
  constructor
  · rintro ⟨x, hx, hp⟩
    obtain ⟨n, hn, hx⟩ := mem_flat.1 hx
    exact (who_hit (p := snd s) hn hx hp).1
  · intro h
    rcases who_cases (snd s) L with ⟨n, x, h1, h2, h3, _⟩ | ⟨_, e, _⟩
    · exact ⟨x, mem_flat.2 ⟨n, h1, h2⟩, h3⟩
    · omega
theorem one_sends {L : LL} (h : ¬ 0 ≤ bI L) (h2 : ¬ 0 ≤ clN L) (s : Int) : ∀ k, k ≤ L.length → all (snd1 s) (L.take k) ≤ 1
  | 0, _ => by simp [all]
  | k + 1, hk => by
    have ih := one_sends h h2 s k (by omega)
    have o := may_one (may_all h k (by omega)) s
    have g := some_sends (L := L.take k) s
    have e : all (snd1 s) (L.take (k + 1)) = all (snd1 s) (L.take k) + (lat L k).countP (snd1 s) := by
      unfold all
      rw [take_lat (by omega), List.flatten_append, List.countP_append]
      simp
    rw [e]
    by_cases z : 0 < (lat L k).countP (snd1 s)
    · obtain ⟨x, hx, hp⟩ := List.countP_pos_iff.1 z
      obtain ⟨p1, p2⟩ := of_decide_eq_true hp
      have : ¬ 0 < all (snd1 s) (L.take k) := fun y => by
        have y' := g.1 y
        refine h2 (who_hit (p := pc L) (by omega) hx ?_).1
        exact decide_eq_true ⟨p1, by rw [p2]; exact y'⟩
      omega
    · omega
/-- Where they fit: of each slot one sends at most; one sends where somebody receives; and who sends is who is found. -/
theorem fits {L : LL} (h : tE L = 0) (s : Int) : all (snd1 s) L ≤ 1 ∧ (0 < all (rcv s) L → all (snd1 s) L = 1) ∧ (0 ≤ sN s L ↔ all (snd1 s) L = 1) ∧ (all (snd1 s) L = 1 → (sE s L).2.1 = s) := by
  unfold tE at h
  by_cases h1 : 0 ≤ bI L
  · rw [if_pos h1] at h; cases h
  · rw [if_neg h1] at h
    by_cases h2 : 0 ≤ clN L
    · rw [if_pos h2] at h; cases h
    · rw [if_neg h2] at h
      by_cases h3 : 0 ≤ gaN L
      · rw [if_pos h3] at h; cases h
      · have o := one_sends h1 h2 s L.length (Nat.le_refl _)
        rw [List.take_length] at o
        have g := some_sends (L := L) s
        refine ⟨o, fun r => ?_, ⟨fun a => by have := g.2 a; omega, fun a => g.1 (by omega)⟩, fun a => ?_⟩
        · obtain ⟨x, hx, hp⟩ := List.countP_pos_iff.1 (show 0 < L.flatten.countP (rcv s) from r)
          obtain ⟨n, hn, hx⟩ := mem_flat.1 hx
          obtain ⟨p1, p2⟩ := of_decide_eq_true hp
          by_cases y : 0 ≤ sN s L
          · have := g.2 y; omega
          · exfalso
            refine h3 (who_hit (p := pg L) hn hx ?_).1
            exact decide_eq_true ⟨p1, by rw [p2]; omega⟩
        · have y := g.1 (by omega)
          unfold sN at y
          unfold sE
          rcases who_cases (snd s) L with ⟨n, x, _, _, p3, _, _, e⟩ | ⟨_, e, _⟩
          · rw [e]
            exact (snd_is p3).2
          · omega

/-- At most twelve tables, of at most seventy entries each. -/
def fewL (L : LL) : LL := (L.take 12).map (·.take 70)
theorem few_len (L : LL) : (fewL L).length ≤ 12 := by simp [fewL, List.length_take]; omega
theorem few_lat {L : LL} {k : Nat} (h : k < 12) : lat (fewL L) k = (lat L k).take 70 := by
  unfold fewL lat
  rw [List.getD_eq_getElem?_getD, List.getElem?_map, List.getElem?_take, if_pos h, List.getD_eq_getElem?_getD]
  rcases L[k]? with _ | t <;> simp
theorem few_each (L : LL) (k : Nat) (h : k < (fewL L).length) : (lat (fewL L) k).length ≤ 70 := by
  have := few_len L
  rw [few_lat (by omega), List.length_take]
  omega

end Go.Proofs.YtilacdjekdngkaaGreatDoor.Ck

/- Plain mathematics of layer 3: bits of a number, frames as functions of their bits, their parity and their byte. -/
namespace Go.Proofs.YtilacdjekdngkaaGreatDoor.Ua
open Go.RowKit

/-- Bit j of a number, counted from the lowest one, 0. -/
def bit (b : Int) (j : Nat) : Bool := decide (b / 2 ^ j % 2 = 1)
/-- Of F 1 to F k: is an odd number high? -/
def par (F : Nat → Bool) : Nat → Bool
  | 0 => false
  | k + 1 => par F k != F (k + 1)
/-- The number that F 1 to F k stand for. -/
def val (F : Nat → Bool) : Nat → Nat
  | 0 => 0
  | k + 1 => val F k + if F (k + 1) then 2 ^ k else 0
/-- How many of F 1 to F k are high. -/
def cnt (F : Nat → Bool) : Nat → Nat
  | 0 => 0
  | k + 1 => cnt F k + if F (k + 1) then 1 else 0
def upd (F : Nat → Bool) (k : Nat) (x : Bool) (i : Nat) : Bool := if i = k then x else F i
/-- A byte's bits below bit k of its frame. -/
def put (b : Int) (k : Nat) (i : Nat) : Bool := if 1 ≤ i ∧ i < k then bit b (i - 1) else false
/-- A byte's frame. -/
def frm (b : Int) (odd : Bool) : Nat → Bool := upd (upd (put b 9) 9 (par (put b 9) 9 != odd)) 10 true
/-- A frame of which some bits below k are turned. -/
def turn (F : Nat → Bool) (m : Int) (k : Nat) (i : Nat) : Bool := if i < k then F i != bit m i else F i
/-- Is a frame none? -/
def bad (F : Nat → Bool) : Bool := F 0 || !F 10
def tb (F : Nat → Bool) : Int := if bad F then 0 else val F 8
def tp (F : Nat → Bool) : Bool := if bad F then false else par F 9
def te (F : Nat → Bool) : Int := if bad F then 2 else 0

theorem par_congr {F G : Nat → Bool} : ∀ k, (∀ i, 1 ≤ i → i ≤ k → F i = G i) → par F k = par G k
  | 0, _ => rfl
  | k + 1, h => by rw [par, par, par_congr k (fun i h1 h2 => h i h1 (by omega)), h (k + 1) (by omega) (by omega)]
theorem val_congr {F G : Nat → Bool} : ∀ k, (∀ i, 1 ≤ i → i ≤ k → F i = G i) → val F k = val G k
  | 0, _ => rfl
  | k + 1, h => by rw [val, val, val_congr k (fun i h1 h2 => h i h1 (by omega)), h (k + 1) (by omega) (by omega)]
theorem val_lt (F : Nat → Bool) : ∀ k, val F k < 2 ^ k
  | 0 => Nat.lt_succ_self 0
  | k + 1 => by have := val_lt F k; rw [val, Nat.pow_succ]; split <;> omega
theorem cnt_le (F : Nat → Bool) : ∀ k, cnt F k ≤ k
  | 0 => Nat.le_refl _
  | k + 1 => by have := cnt_le F k; rw [cnt]; split <;> omega
theorem cnt_par (F : Nat → Bool) : ∀ k, decide (cnt F k % 2 = 1) = par F k
  | 0 => rfl
  | k + 1 => by
    have ih := cnt_par F k
    rw [cnt, par, ← ih]
    by_cases h : F (k + 1) = true <;> by_cases c : cnt F k % 2 = 1 <;> simp [h, c] <;> omega
theorem par_turn (F : Nat → Bool) (m : Int) : ∀ k, k < 11 → par (turn F m 11) k = (par F k != par (bit m) k)
  | 0, _ => rfl
  | k + 1, h => by
    rw [par, par, par, par_turn F m k (by omega)]
    have : turn F m 11 (k + 1) = (F (k + 1) != bit m (k + 1)) := by unfold turn; rw [if_pos h]
    rw [this]
    cases par F k <;> cases par (bit m) k <;> cases F (k + 1) <;> cases bit m (k + 1) <;> rfl

theorem bit_div (b : Int) (j : Nat) : bit (b / 2 ^ j) 0 = bit b j := by simp [bit]
theorem bit_mod (b : Int) (j : Nat) : b / 2 ^ j % 2 = if bit b j then 1 else 0 := by
  unfold bit
  split
  · rename_i h; simpa using h
  · rename_i h; simp at h; omega
theorem pow_succ_int (k : Nat) : (2 : Int) ^ (k + 1) = 2 ^ k * 2 := Int.pow_succ _ _
theorem mod_step (b : Int) (k : Nat) : b % 2 ^ (k + 1) = b % 2 ^ k + b / 2 ^ k % 2 * 2 ^ k := by
  have e : b / (2 ^ k * 2) = b / 2 ^ k / 2 := (Int.ediv_ediv_of_nonneg (Int.le_of_lt (Int.pow_pos (by decide)))).symm
  rw [pow_succ_int, Int.emod_def b (2 ^ k * 2), Int.emod_def b (2 ^ k), Int.emod_def (b / 2 ^ k) 2, e]
  grind
theorem val_put (b : Int) : ∀ k, k ≤ 8 → (val (put b 9) k : Int) = b % 2 ^ k
  | 0, _ => by simp [val]
  | k + 1, h => by
    have ih := val_put b k (by omega)
    rw [mod_step, ← ih, val, bit_mod]
    have : put b 9 (k + 1) = bit b k := by unfold put; rw [if_pos (by omega)]; rfl
    rw [this]
    split <;> simp

theorem frm_0 (b : Int) (odd : Bool) : frm b odd 0 = false := rfl
theorem frm_10 (b : Int) (odd : Bool) : frm b odd 10 = true := rfl
theorem bad_frm (b : Int) (odd : Bool) : bad (frm b odd) = false := rfl
theorem frm_put (b : Int) (odd : Bool) (i : Nat) (h : i ≤ 8) : frm b odd i = put b 9 i := by
  unfold frm upd
  rw [if_neg (by omega), if_neg (by omega)]
theorem par_put9 (b : Int) : par (put b 9) 9 = par (put b 9) 8 := by
  show (par (put b 9) 8 != put b 9 9) = _
  have : put b 9 9 = false := by unfold put; rw [if_neg (by omega)]
  rw [this]; simp
theorem par_frm (b : Int) (odd : Bool) : par (frm b odd) 9 = odd := by
  show (par (frm b odd) 8 != frm b odd 9) = _
  rw [par_congr (G := put b 9) 8 (fun i _ h => frm_put b odd i h)]
  have : frm b odd 9 = (par (put b 9) 9 != odd) := rfl
  rw [this, par_put9]
  cases par (put b 9) 8 <;> cases odd <;> rfl
theorem tb_frm (b : Int) (odd : Bool) (h0 : 0 ≤ b) (h1 : b ≤ 255) : tb (frm b odd) = b := by
  unfold tb
  rw [bad_frm, if_neg (by simp), val_congr (G := put b 9) 8 (fun i _ h => frm_put b odd i h), val_put b 8 (by omega)]
  omega
theorem tp_frm (b : Int) (odd : Bool) : tp (frm b odd) = odd := by unfold tp; rw [bad_frm, par_frm]; simp
theorem te_frm (b : Int) (odd : Bool) : te (frm b odd) = 0 := rfl

/-- Some bits of 1 to 9 alone are turned. -/
theorem bits_in (m : Int) : bit (m / 2 % 512 * 2) 0 = false ∧ bit (m / 2 % 512 * 2) 10 = false := by
  unfold bit
  constructor
  · simp
  · simp only [decide_eq_false_iff_not]
    omega
theorem bad_turn (b : Int) (odd : Bool) (m : Int) (h0 : bit m 0 = false) (h1 : bit m 10 = false) : bad (turn (frm b odd) m 11) = false := by
  unfold bad turn
  simp [h0, h1, frm_0, frm_10]
theorem te_turn (b : Int) (odd : Bool) (m : Int) (h0 : bit m 0 = false) (h1 : bit m 10 = false) : te (turn (frm b odd) m 11) = 0 := by
  unfold te; rw [bad_turn b odd m h0 h1]; rfl
theorem tp_turn (b : Int) (odd : Bool) (m : Int) (h0 : bit m 0 = false) (h1 : bit m 10 = false) : tp (turn (frm b odd) m 11) = (odd != par (bit m) 9) := by
  unfold tp; rw [bad_turn b odd m h0 h1, par_turn _ _ 9 (by omega), par_frm]; rfl
theorem turn_turn (F : Nat → Bool) (m : Int) (i : Nat) (h : i < 11) : turn (turn F m 11) m 11 i = F i := by
  unfold turn
  rw [if_pos h, if_pos h]
  cases F i <;> cases bit m i <;> rfl

/-- How many bits below k of m are 1. -/
def ones (m : Int) : Nat → Nat
  | 0 => 0
  | k + 1 => ones m k + if bit m k then 1 else 0
theorem ones_le (m : Int) : ∀ k, ones m k ≤ k
  | 0 => Nat.le_refl _
  | k + 1 => by have := ones_le m k; rw [ones]; split <;> omega
theorem ones_cnt (m : Int) (h0 : bit m 0 = false) : ∀ k, ones m (k + 1) = cnt (bit m) k
  | 0 => by simp [ones, cnt, h0]
  | k + 1 => by rw [ones, ones_cnt m h0 k, cnt]
theorem ones_par (m : Int) (h0 : bit m 0 = false) (h1 : bit m 10 = false) : decide (ones m 11 % 2 = 1) = par (bit m) 9 := by
  rw [← cnt_par, ones_cnt m h0 10, cnt]
  simp [h1]

theorem and_bit_all : ∀ b : Fin 256, ∀ j : Fin 8, (bits BinOp.and .u8 (b.val : Int) (2 ^ j.val) != 0) = decide ((b.val : Int) / 2 ^ j.val % 2 = 1) := by decide +kernel
theorem and_bit (b : Int) (j : Nat) (h0 : 0 ≤ b) (h1 : b ≤ 255) (hj : j < 8) : (bits BinOp.and .u8 b (2 ^ j) != 0) = bit b j := by
  have := and_bit_all ⟨b.toNat, by omega⟩ ⟨j, hj⟩
  simp only at this
  rw [show ((b.toNat : Nat) : Int) = b by omega] at this
  exact this
theorem or_bit_all : ∀ b : Fin 256, ∀ j : Fin 8, b.val < 2 ^ j.val → bits BinOp.or .u8 (b.val : Int) (2 ^ j.val) = ((b.val + 2 ^ j.val : Nat) : Int) := by decide +kernel
theorem or_bit (b j : Nat) (hj : j < 8) (h : b < 2 ^ j) : bits BinOp.or .u8 (b : Int) (2 ^ j) = ((b + 2 ^ j : Nat) : Int) :=
  or_bit_all ⟨b, by have : 2 ^ j ≤ 2 ^ 7 := Nat.pow_le_pow_right (by omega) (by omega)
                    omega⟩ ⟨j, hj⟩ h
theorem and_i64 (x : Int) (c : Nat) (hc : c < 9223372036854775808) : bits BinOp.and .i64 x (c : Int) = (((x % 18446744073709551616).toNat &&& c : Nat) : Int) := by
  have e : (BitVec.ofInt 64 x &&& BitVec.ofInt 64 (c : Int)).toNat = (x % 18446744073709551616).toNat &&& c := by
    rw [BitVec.toNat_and, BitVec.toNat_ofInt, BitVec.toNat_ofInt]
    congr 1
    simp
    omega
  show IntKind.i64.wrap (((BitVec.ofInt 64 x &&& BitVec.ofInt 64 (c : Int)).toNat : Nat) : Int) = _
  rw [e]
  have l : (x % 18446744073709551616).toNat &&& c ≤ c := Nat.and_le_right
  exact IntWalk.i64_in _ (by omega)
theorem and_one (x : Int) : bits BinOp.and .i64 x 1 = x % 2 := by
  have := and_i64 x 1 (by omega)
  rw [Nat.and_one_is_mod] at this
  rw [show (1 : Int) = ((1 : Nat) : Int) from rfl, this]
  omega
theorem test_one (m : Int) (k : Nat) : (bits BinOp.and .i64 (m / 2 ^ k) 1 == 1) = bit m k := by rw [and_one]; rfl
theorem and_1022_all : ∀ r : Fin 1024, r.val &&& 1022 = r.val / 2 * 2 := by decide +kernel
theorem nat_and_1022 (X : Nat) : X &&& 1022 = X % 1024 / 2 * 2 := by
  have h : X &&& 1022 = (X % 1024) &&& 1022 := by
    have := Nat.and_two_pow_sub_one_eq_mod X 10
    rw [show X % 1024 = X % 2 ^ 10 from rfl, ← this, Nat.and_assoc]
    rfl
  rw [h]
  exact and_1022_all ⟨X % 1024, Nat.mod_lt _ (by omega)⟩
theorem and_1022 (x : Int) : bits BinOp.and .i64 x 1022 = x / 2 % 512 * 2 := by
  have := and_i64 x 1022 (by omega)
  rw [nat_and_1022] at this
  rw [show (1022 : Int) = ((1022 : Nat) : Int) from rfl, this]
  omega

end Go.Proofs.YtilacdjekdngkaaGreatDoor.Ua

/- Plain mathematics of layer 14: what a record is behind a round, what is executed, frames with turned bits, what is heard. -/
namespace Go.Proofs.YtilacdjekdngkaaGreatDoor.Pa
open Go.RowKit
open Go.Proofs.YtilacdjekdngkaaGreatDoor.Fl (R4 z4 rat goodF okR okL)
open Go.Proofs.YtilacdjekdngkaaGreatDoor.Fs (Fil Abs key Srt OkA gB gV sB sA dA dE dD dV addE addA look_some look_none look_at map_look put_set)
open Go.Proofs.YtilacdjekdngkaaGreatDoor.Ro (E5 z5 okE eat mayP)
open Go.Proofs.YtilacdjekdngkaaGreatDoor.Ck (LL lat sN sE tE)
open Go.Proofs.YtilacdjekdngkaaGreatDoor.Ua (bit frm te tp tb upd)

/-! ### bytes of records -/
def rb (v : R4) (b : Int) : Int := if b = 0 then v.1 else if b = 1 then v.2.1 else if b = 2 then v.2.2.1 else v.2.2.2
def rs (v : R4) (b x : Int) : R4 := if b = 0 then (x, v.2.1, v.2.2.1, v.2.2.2) else if b = 1 then (v.1, x, v.2.2.1, v.2.2.2) else if b = 2 then (v.1, v.2.1, x, v.2.2.2) else (v.1, v.2.1, v.2.2.1, x)
def byt (x : Int) : Prop := 0 ≤ x ∧ x ≤ 255
theorem rb_ok {v : R4} (h : okR v) (b : Int) : byt (rb v b) := by
  obtain ⟨h1, h2, h3, h4⟩ := h
  unfold rb byt
  split
  · exact h1
  · split
    · exact h2
    · split
      · exact h3
      · exact h4
theorem rs_ok {v : R4} (h : okR v) (b : Int) {x : Int} (hx : byt x) : okR (rs v b x) := by
  obtain ⟨h1, h2, h3, h4⟩ := h
  unfold rs
  split
  · exact ⟨hx, h2, h3, h4⟩
  · split
    · exact ⟨h1, hx, h3, h4⟩
    · split
      · exact ⟨h1, h2, hx, h4⟩
      · exact ⟨h1, h2, h3, hx⟩
theorem rs_swap (v : R4) {a b : Int} (h : a ≠ b) (ha : 0 ≤ a ∧ a ≤ 3) (hb : 0 ≤ b ∧ b ≤ 3) (x y : Int) : rs (rs v a x) b y = rs (rs v b y) a x := by
  obtain rfl | rfl | rfl | rfl : a = 0 ∨ a = 1 ∨ a = 2 ∨ a = 3 := by omega
  all_goals
    obtain rfl | rfl | rfl | rfl : b = 0 ∨ b = 1 ∨ b = 2 ∨ b = 3 := by omega
    all_goals first | (exact absurd rfl h) | rfl
theorem rs_twice (v : R4) (a x y : Int) : rs (rs v a x) a y = rs v a y := by
  unfold rs
  by_cases h0 : a = 0
  · simp [h0]
  · by_cases h1 : a = 1
    · simp [h1]
    · by_cases h2 : a = 2
      · simp [h2]
      · simp [h0, h1, h2]

/-! ### a record, as its entries heard it -/
abbrev Hr := Int → Option Int
def mt (f r : Int) (x : E5) : Bool := decide (x.1 = 2 ∧ x.2.2.1 = f ∧ x.2.2.2.1 = r)
def grp (t : List E5) (f r : Int) : List E5 := t.filter (mt f r)
def allH (h : Hr) (l : List E5) : Bool := l.all fun x => (h x.2.1).isSome
def mix (h : Hr) (l : List E5) (v : R4) : R4 := l.foldl (fun v x => rs v x.2.2.2.2 ((h x.2.1).getD 0)) v
def newV (h : Hr) (l : List E5) (v : R4) : R4 := if allH h l = true then mix h l v else v
def okH (h : Hr) : Prop := ∀ n y, h n = some y → byt y
/-- Its byte number, in a record. -/
def okY (l : List E5) : Prop := ∀ x ∈ l, 0 ≤ x.2.2.2.2 ∧ x.2.2.2.2 ≤ 3
theorem getD_ok {h : Hr} (hh : okH h) (n : Int) : byt ((h n).getD 0) := by
  rcases e : h n with _ | y
  · exact ⟨Int.le_refl _, by show (0 : Int) ≤ 255; omega⟩
  · exact hh n y e
theorem mix_ok {h : Hr} (hh : okH h) : ∀ (l : List E5) {v : R4}, okR v → okR (mix h l v)
  | [], _, hv => hv
  | _ :: r, _, hv => mix_ok hh r (rs_ok hv _ (getD_ok hh _))
theorem newV_ok {h : Hr} (hh : okH h) (l : List E5) {v : R4} (hv : okR v) : okR (newV h l v) := by
  unfold newV
  split
  · exact mix_ok hh l hv
  · exact hv
theorem newV_nil (h : Hr) (v : R4) : newV h [] v = v := rfl
theorem mix_cons (h : Hr) (x : E5) (r : List E5) (v : R4) : mix h (x :: r) v = mix h r (rs v x.2.2.2.2 ((h x.2.1).getD 0)) := rfl
theorem mix_rs {h : Hr} (a x : Int) (ha : 0 ≤ a ∧ a ≤ 3) : ∀ (l : List E5) (v : R4), okY l → mix h l (rs v a x) = if l.any (fun y => decide (y.2.2.2.2 = a)) = true then mix h l v else rs (mix h l v) a x
  | [], _, _ => rfl
  | y :: r, v, hy => by
    have hr : okY r := fun z hz => hy z (List.mem_cons_of_mem _ hz)
    have hy0 := hy y (List.mem_cons_self ..)
    rw [mix_cons, mix_cons, List.any_cons]
    by_cases e : y.2.2.2.2 = a
    · rw [e, rs_twice, decide_eq_true (rfl : a = a), Bool.true_or, if_pos rfl]
    · rw [decide_eq_false e, Bool.false_or, rs_swap _ (fun h => e h.symm) ha hy0, mix_rs a x ha r _ hr]
theorem mix_mix {h : Hr} : ∀ (l : List E5) (v : R4), okY l → mix h l (mix h l v) = mix h l v
  | [], _, _ => rfl
  | x :: r, v, hy => by
    have hr : okY r := fun z hz => hy z (List.mem_cons_of_mem _ hz)
    have hx := hy x (List.mem_cons_self ..)
    have ih := mix_mix (h := h) r v hr
    rw [mix_cons, mix_cons, mix_rs _ _ hx r v hr]
    split
    · rename_i hany
      rw [mix_rs _ _ hx r _ hr, if_pos hany, ih]
    · rename_i hany
      rw [rs_twice, mix_rs _ _ hx r _ hr, if_neg hany, ih]
theorem newV_newV {h : Hr} {l : List E5} (hy : okY l) (v : R4) : newV h l (newV h l v) = newV h l v := by
  unfold newV
  by_cases e : allH h l = true
  · simp only [e, if_true]
    exact mix_mix l v hy
  · simp only [e, if_false, Bool.false_eq_true]

/-! ### all records of some places -/
def recF (h : Hr) (t : List E5) (V : Int → Int → Bool) (e : Fil) : Fil := (e.1, e.2.1, e.2.2.mapIdx fun k v => if V e.1 k = true then newV h (grp t e.1 k) v else v)
def recV (h : Hr) (t : List E5) (V : Int → Int → Bool) (A : Abs) : Abs := A.map (recF h t V)
def recA (h : Hr) (t : List E5) (A : Abs) : Abs := recV h t (fun _ _ => true) A
section
variable {h : Hr} {t : List E5} {V : Int → Int → Bool} {A : Abs}
theorem recF_len (e : Fil) : (recF h t V e).2.2.length = e.2.2.length := by simp [recF]
theorem recF_get (e : Fil) (k : Nat) : (recF h t V e).2.2[k]? = (e.2.2[k]?).map fun v => if V e.1 k = true then newV h (grp t e.1 k) v else v := by simp [recF]
theorem recF_rat (e : Fil) {k : Nat} (hk : k < e.2.2.length) : rat (recF h t V e).2.2 k = if V e.1 k = true then newV h (grp t e.1 k) (rat e.2.2 k) else rat e.2.2 k := by
  unfold rat
  rw [List.getD_eq_getElem?_getD, List.getD_eq_getElem?_getD, recF_get, List.getElem?_eq_getElem hk]
  rfl
theorem rec_look (n : Int) : Fs.look key n (recV h t V A) = (Fs.look key n A).map (recF h t V) := map_look (κ := key) (κ' := key) (f := recF h t V) (fun _ => rfl) n A
theorem rec_gB (n k : Int) : gB (recV h t V A) n k = gB A n k := by
  unfold gB
  rw [rec_look]
  cases Fs.look key n A with
  | none => rfl
  | some e => simp [recF_len]
theorem rec_gV (n k : Int) (hg : gB A n k = true) : gV (recV h t V A) n k = if V n k = true then newV h (grp t n k) (gV A n k) else gV A n k := by
  unfold gB at hg
  unfold gV
  rw [rec_look]
  rcases e : Fs.look key n A with _ | c
  · rw [e] at hg
    cases hg
  · rw [e] at hg
    simp only [decide_eq_true_eq] at hg
    obtain ⟨_, hk⟩ := look_some e
    have hn : c.1 = n := hk
    simp only [Option.map_some]
    rw [if_pos (by rw [recF_len]; exact hg), if_pos hg, recF_rat c (by omega)]
    have ek : ((k.toNat : Nat) : Int) = k := by omega
    rw [ek, hn]
theorem rec_none (hV : ∀ n k, V n k = false) : recV h t V A = A := by
  unfold recV
  rw [List.map_congr_left (g := id) (fun e _ => ?_), List.map_id]
  obtain ⟨n, p, l⟩ := e
  simp only [recF, hV, id]
  congr 2
  exact List.ext_getElem? fun k => by simp
theorem rec_congr {V' : Int → Int → Bool} (hV : ∀ n k, grp t n k ≠ [] → V n k = V' n k) : recV h t V A = recV h t V' A := by
  unfold recV
  refine List.map_congr_left fun e _ => ?_
  unfold recF
  congr 2
  refine List.ext_getElem? fun k => ?_
  simp only [List.getElem?_mapIdx]
  cases e.2.2[k]? with
  | none => rfl
  | some v =>
    by_cases hg : grp t e.1 k = []
    · simp [hg, newV_nil]
    · simp [hV _ _ hg]
theorem rec_all (hV : ∀ n k, grp t n k ≠ [] → V n k = true) : recV h t V A = recA h t A := rec_congr hV
/-- One place more. -/
def also (V : Int → Int → Bool) (n k : Int) (a b : Int) : Bool := V a b || decide (a = n ∧ b = k)
theorem rec_set (hA : OkA A) {n k : Int} (hg : gB A n k = true) (h0 : k ≠ 0) (hy : okY (grp t n k)) : sA (recV h t V A) n k (newV h (grp t n k) (gV (recV h t V A) n k)) = recV h t (also V n k) A := by
  have hgr : gB (recV h t V A) n k = true := (rec_gB n k).trans hg
  have hsb : sB (recV h t V A) n k = true := by unfold sB; rw [hgr, decide_eq_true h0]; rfl
  have hv := rec_gV (h := h) (t := t) (V := V) n k hg
  have hval : newV h (grp t n k) (gV (recV h t V A) n k) = newV h (grp t n k) (gV A n k) := by
    rw [hv]
    split
    · exact newV_newV hy _
    · rfl
  rw [hval]
  unfold gB at hg
  rcases e : Fs.look key n A with _ | c
  · rw [e] at hg
    cases hg
  rw [e] at hg
  simp only [decide_eq_true_eq] at hg
  obtain ⟨hm, hk⟩ := look_some e
  have hn : c.1 = n := hk
  have hvA : gV A n k = rat c.2.2 k.toNat := by unfold gV; rw [e]; exact if_pos hg
  rw [hvA]
  unfold sA
  rw [rec_look, e]
  simp only [Option.map_some]
  rw [if_pos hsb]
  obtain ⟨i, hi⟩ := List.getElem?_of_mem hm
  have hsr : Srt key (recV h t V A) := (Fs.map_srt (κ := key) (κ' := key) (f := recF h t V) (fun _ => rfl)).2 hA.srt
  have hir : (recV h t V A)[i]? = some (recF h t V c) := by unfold recV; rw [List.getElem?_map, hi]; rfl
  rw [put_set (κ := key) (c := (n, (recF h t V c).2.1, (recF h t V c).2.2.set k.toNat (newV h (grp t n k) (rat c.2.2 k.toNat)))) hsr hir (show c.1 = n from hn)]
  refine List.ext_getElem? fun j => ?_
  rw [List.getElem?_set]
  have hlen : i < (recV h t V A).length := (List.getElem?_eq_some_iff.1 hir).1
  by_cases hj : i = j
  · subst hj
    rw [if_pos rfl, if_pos hlen]
    unfold recV
    rw [List.getElem?_map, hi]
    simp only [Option.map_some, Option.some.injEq]
    unfold recF
    refine Prod.ext hn.symm (Prod.ext rfl ?_)
    refine List.ext_getElem? fun q => ?_
    simp only [List.getElem?_set, List.length_mapIdx, List.getElem?_mapIdx]
    by_cases hq : k.toNat = q
    · subst hq
      have hql : k.toNat < c.2.2.length := by omega
      rw [if_pos rfl, if_pos hql, List.getElem?_eq_getElem hql]
      have ek : ((k.toNat : Nat) : Int) = k := by omega
      simp only [Option.map_some, ek, also, hn, and_self, decide_true, Bool.or_true, if_true]
      congr 2
      unfold rat
      rw [List.getD_eq_getElem?_getD, List.getElem?_eq_getElem hql]
      rfl
    · rw [if_neg hq]
      have hne : ¬ (q : Int) = k := by omega
      cases c.2.2[q]? with
      | none => rfl
      | some v => simp [also, hne]
  · rw [if_neg hj]
    unfold recV
    rw [List.getElem?_map, List.getElem?_map]
    rcases ej : A[j]? with _ | x
    · rfl
    · have hne : x.1 ≠ n := fun hx => by
        have hxm : x ∈ A := List.mem_of_getElem? ej
        have q1 := look_at hA.srt hxm
        rw [show key x = n from hx, e] at q1
        injection q1 with q1
        subst q1
        have hi' := (List.getElem?_eq_some_iff.1 hi).1
        have hj' := (List.getElem?_eq_some_iff.1 ej).1
        have pw := List.pairwise_iff_getElem.1 hA.srt
        have g1 : A[i] = c := by have := hi; rw [List.getElem?_eq_getElem hi'] at this; simpa using this
        have g2 : A[j] = c := by have := ej; rw [List.getElem?_eq_getElem hj'] at this; simpa using this
        rcases Nat.lt_or_gt_of_ne hj with hlt | hlt
        · have := pw i j hi' hj' hlt
          rw [g1, g2] at this
          omega
        · have := pw j i hj' hi' hlt
          rw [g1, g2] at this
          omega
      simp only [Option.map_some, Option.some.injEq]
      unfold recF
      congr 2
      refine List.ext_getElem? fun q => ?_
      simp [also, hne]
theorem rec_out (hA : OkA A) {n k : Int} (hg : gB A n k = false) : recV h t (also V n k) A = recV h t V A := by
  unfold recV
  refine List.map_congr_left fun e he => ?_
  unfold recF
  congr 2
  refine List.ext_getElem? fun q => ?_
  simp only [List.getElem?_mapIdx]
  by_cases hx : e.1 = n ∧ (q : Int) = k
  · obtain ⟨h1, h2⟩ := hx
    have q1 := look_at hA.srt he
    rw [show key e = n from h1] at q1
    unfold gB at hg
    rw [q1] at hg
    simp only [decide_eq_false_iff_not] at hg
    rw [List.getElem?_eq_none (by omega)]
    rfl
  · simp [also, hx]
end

end Go.Proofs.YtilacdjekdngkaaGreatDoor.Pa

/- Plain mathematics of layer 14, second part: the order of receiving, executing, frames with turned bits, what is heard, whole rounds. -/
namespace Go.Proofs.YtilacdjekdngkaaGreatDoor.Pa
open Go.RowKit
open Go.Proofs.YtilacdjekdngkaaGreatDoor.Fl (R4 z4 rat goodF okR okL)
open Go.Proofs.YtilacdjekdngkaaGreatDoor.Fs (Fil Abs key Srt OkA gB gV sB sA dA dE dD dV addE addA look_some look_none look_at map_look put_set)
open Go.Proofs.YtilacdjekdngkaaGreatDoor.Ro (E5 z5 okE eat mayP eat_get)
open Go.Proofs.YtilacdjekdngkaaGreatDoor.Ck (LL lat sN sE tE)
open Go.Proofs.YtilacdjekdngkaaGreatDoor.Ua (bit frm te tp tb upd)

section
variable {h : Hr} {t : List E5} {V : Int → Int → Bool} {A : Abs}
/-- A record as its entries heard it, in a store. -/
def rcv1 (h : Hr) (l : List E5) (f r : Int) (A : Abs) : Abs := if (gB A f r && allH h l) = true then sA A f r (mix h l (gV A f r)) else A
theorem rcv1_next (hA : OkA A) {f r : Int} (h0 : r ≠ 0) (hy : okY (grp t f r)) : rcv1 h (grp t f r) f r (recV h t V A) = recV h t (also V f r) A := by
  unfold rcv1
  rw [rec_gB]
  by_cases hg : gB A f r = true
  · by_cases ha : allH h (grp t f r) = true
    · rw [hg, ha, show (true && true) = true from rfl, if_pos rfl, ← rec_set hA hg h0 hy]
      congr 1
      unfold newV
      rw [if_pos ha]
    · rw [if_neg (by simp [ha])]
      unfold recV
      refine List.map_congr_left fun e _ => ?_
      unfold recF
      congr 2
      refine List.ext_getElem? fun q => ?_
      simp only [List.getElem?_mapIdx]
      by_cases hx : e.1 = f ∧ (q : Int) = r
      · obtain ⟨h1, h2⟩ := hx
        rw [h1, h2]
        have : ∀ v, newV h (grp t f r) v = v := fun v => by unfold newV; rw [if_neg ha]
        simp only [this, ite_self]
      · simp [also, hx]
  · rw [if_neg (by simp [hg]), rec_out hA (by simpa using hg)]
/-- Has an entry among the first ones received it? -/
def seen (t : List E5) (j : Nat) (n k : Int) : Bool := (t.take j).any (mt n k)
theorem seen_zero (n k : Int) : seen t 0 n k = false := by simp [seen]
theorem take_eat {j : Nat} (hj : j < t.length) : t.take (j + 1) = t.take j ++ [eat t j] := by rw [List.take_add_one, eat_get hj]; rfl
theorem seen_yes {j : Nat} (hj : j < t.length) (h2 : (eat t j).1 = 2) (n k : Int) : seen t (j + 1) n k = also (seen t j) (eat t j).2.2.1 (eat t j).2.2.2.1 n k := by
  unfold seen also
  rw [take_eat hj, List.any_append]
  congr 1
  simp only [List.any_cons, List.any_nil, Bool.or_false, mt, h2, true_and]
  rw [decide_eq_decide]
  constructor <;> rintro ⟨a, b⟩ <;> exact ⟨a.symm, b.symm⟩
theorem seen_no {j : Nat} (hj : j < t.length) (h2 : (eat t j).1 ≠ 2) (n k : Int) : seen t (j + 1) n k = seen t j n k := by
  unfold seen
  rw [take_eat hj, List.any_append]
  simp [mt, h2]
theorem seen_all (n k : Int) (hg : grp t n k ≠ []) : seen t t.length n k = true := by
  unfold seen
  rw [List.take_length, List.any_eq_true]
  obtain ⟨x, hx⟩ := List.exists_mem_of_ne_nil _ hg
  obtain ⟨h1, h2⟩ := List.mem_filter.1 hx
  exact ⟨x, h1, h2⟩
theorem rec_none' : recV h t (seen t 0) A = A := rec_none fun n k => seen_zero n k
theorem rec_yes (hA : OkA A) {j : Nat} (hj : j < t.length) (h2 : (eat t j).1 = 2) (h0 : (eat t j).2.2.2.1 ≠ 0) (hy : okY (grp t (eat t j).2.2.1 (eat t j).2.2.2.1)) :
    rcv1 h (grp t (eat t j).2.2.1 (eat t j).2.2.2.1) (eat t j).2.2.1 (eat t j).2.2.2.1 (recV h t (seen t j) A) = recV h t (seen t (j + 1)) A := by
  rw [rcv1_next hA h0 hy]
  exact rec_congr fun n k _ => (seen_yes hj h2 n k).symm
theorem rec_no {j : Nat} (hj : j < t.length) (h2 : (eat t j).1 ≠ 2) : recV h t (seen t j) A = recV h t (seen t (j + 1)) A := rec_congr fun n k _ => (seen_no hj h2 n k).symm
theorem rec_end : recV h t (seen t t.length) A = recA h t A := rec_all fun n k hg => seen_all n k hg

/-! ### what is executed -/
def ex1 (s : Abs × Int) (x : E5) : Abs × Int := if x.1 = 3 then (dA s.1 2 x.2.2.1 x.2.2.2.1 z4, dD s.1 2 x.2.2.1 x.2.2.2.1 s.2) else s
def exU (t : List E5) (s : Abs × Int) (j : Nat) : Abs × Int := (t.take j).foldl ex1 s
def apS (h : Hr) (t : List E5) (s : Abs × Int) : Abs × Int := t.foldl ex1 (recA h t s.1, s.2)
theorem exU_zero (s : Abs × Int) : exU t s 0 = s := rfl
theorem exU_next (s : Abs × Int) {j : Nat} (hj : j < t.length) : exU t s (j + 1) = ex1 (exU t s j) (eat t j) := by unfold exU; rw [take_eat hj, List.foldl_append]; rfl
theorem exU_yes (s : Abs × Int) {j : Nat} (hj : j < t.length) (h3 : (eat t j).1 = 3) : exU t s (j + 1) = (dA (exU t s j).1 2 (eat t j).2.2.1 (eat t j).2.2.2.1 z4, dD (exU t s j).1 2 (eat t j).2.2.1 (eat t j).2.2.2.1 (exU t s j).2) := by
  rw [exU_next s hj]
  unfold ex1
  rw [if_pos h3]
theorem exU_no (s : Abs × Int) {j : Nat} (hj : j < t.length) (h3 : (eat t j).1 ≠ 3) : exU t s (j + 1) = exU t s j := by
  rw [exU_next s hj]
  unfold ex1
  rw [if_neg h3]
theorem exU_end (h : Hr) (s : Abs × Int) : exU t (recA h t s.1, s.2) t.length = apS h t s := by unfold exU apS; rw [List.take_length]
theorem dD_le {A : Abs} {o f r d : Int} : d ≤ dD A o f r d ∧ dD A o f r d ≤ d + 1 := by unfold dD; split <;> omega
theorem exU_d (s : Abs × Int) : ∀ j, s.2 ≤ (exU t s j).2 ∧ (exU t s j).2 ≤ s.2 + j
  | 0 => by rw [exU_zero]; omega
  | j + 1 => by
    have ih := exU_d s j
    by_cases hj : j < t.length
    · rw [exU_next s hj]
      unfold ex1
      split
      · have := dD_le (A := (exU t s j).1) (o := 2) (f := (eat t j).2.2.1) (r := (eat t j).2.2.2.1) (d := (exU t s j).2)
        simp only
        omega
      · omega
    · have : exU t s (j + 1) = exU t s j := by unfold exU; rw [List.take_of_length_le (by omega), List.take_of_length_le (by omega)]
      rw [this]
      omega
end

/-! ### frames with turned bits -/
def tn (F : Nat → Bool) (m : Int) (i : Nat) : Bool := if 1 ≤ i ∧ i < 11 then F i != bit m i else F i
abbrev S2 := Int × Int
def z2 : S2 := (0, 0)
def pat (P : List S2) (i : Nat) : S2 := P.getD i z2
def sq1 (s : Int) (F : Nat → Bool) (x : S2) : Nat → Bool := if x.1 = s then tn F x.2 else F
def sq (P : List S2) (s : Int) (F : Nat → Bool) (j : Nat) : Nat → Bool := (P.take j).foldl (sq1 s) F
theorem sq_zero (P : List S2) (s : Int) (F : Nat → Bool) : sq P s F 0 = F := rfl
theorem sq_next (P : List S2) (s : Int) (F : Nat → Bool) {j : Nat} (hj : j < P.length) : sq P s F (j + 1) = sq1 s (sq P s F j) (pat P j) := by
  unfold sq
  have : P.take (j + 1) = P.take j ++ [pat P j] := by
    rw [List.take_add_one, List.getElem?_eq_getElem hj]
    unfold pat
    rw [List.getD_eq_getElem?_getD, List.getElem?_eq_getElem hj]
    rfl
  rw [this, List.foldl_append]
  rfl
theorem sq_yes (P : List S2) (s : Int) (F : Nat → Bool) {j : Nat} (hj : j < P.length) (h : (pat P j).1 = s) : sq P s F (j + 1) = tn (sq P s F j) (pat P j).2 := by rw [sq_next P s F hj]; unfold sq1; rw [if_pos h]
theorem sq_no (P : List S2) (s : Int) (F : Nat → Bool) {j : Nat} (hj : j < P.length) (h : (pat P j).1 ≠ s) : sq P s F (j + 1) = sq P s F j := by rw [sq_next P s F hj]; unfold sq1; rw [if_neg h]
/-- The mask that leaves bit 0, as the program has it. -/
theorem and_2046_all : ∀ r : Fin 2048, r.val &&& 2046 = r.val / 2 * 2 := by decide +kernel
theorem and_2046 (x : Int) : bits BinOp.and .i64 x 2046 = x / 2 % 1024 * 2 := by
  have h := Ua.and_i64 x 2046 (by decide)
  have h2 : ((x % 18446744073709551616).toNat &&& 2046 : Nat) = (x % 18446744073709551616).toNat % 2048 / 2 * 2 := by
    have a := and_2046_all ⟨(x % 18446744073709551616).toNat % 2048, Nat.mod_lt _ (by omega)⟩
    simp only at a
    rw [← a]
    have e : (x % 18446744073709551616).toNat % 2048 = (x % 18446744073709551616).toNat &&& (2 ^ 11 - 1) := by rw [Nat.and_two_pow_sub_one_eq_mod]
    rw [e, Nat.and_assoc]
    rfl
  rw [show ((2046 : Int)) = ((2046 : Nat) : Int) from rfl, h, h2]
  omega
theorem bit_2046 (x : Int) {i : Nat} (hi : i < 11) : bit (x / 2 % 1024 * 2) i = (decide (1 ≤ i) && bit x i) := by
  unfold bit
  rcases Nat.lt_or_ge i 1 with h | h
  · obtain rfl : i = 0 := by omega
    simp
  · rw [decide_eq_true h, Bool.true_and, decide_eq_decide]
    obtain rfl | rfl | rfl | rfl | rfl | rfl | rfl | rfl | rfl | rfl : i = 1 ∨ i = 2 ∨ i = 3 ∨ i = 4 ∨ i = 5 ∨ i = 6 ∨ i = 7 ∨ i = 8 ∨ i = 9 ∨ i = 10 := by omega
    all_goals simp only [Int.reducePow]; omega
/-- As the program turns it. -/
theorem tn_code (F : Nat → Bool) (m : Int) (i : Nat) (hi : i < 11) : Ua.turn F (bits BinOp.and .i64 m 2046) 11 i = tn F m i := by
  rw [and_2046]
  unfold Ua.turn tn
  rw [if_pos hi, bit_2046 m hi]
  by_cases h : 1 ≤ i
  · simp [h, hi]
  · simp [h]
/-- As the document does. -/
theorem tn_ref (F : Nat → Bool) (m : Int) (i : Nat) (hi : i < 11) : upd (Ua.turn F m 11) 0 (F 0) i = tn F m i := by
  unfold upd Ua.turn tn
  by_cases h : i = 0
  · subst h; simp
  · rw [if_neg h, if_pos hi, if_pos ⟨by omega, hi⟩]
theorem tn_congr {F G : Nat → Bool} (h : ∀ i, i < 11 → F i = G i) (m : Int) (i : Nat) (hi : i < 11) : tn F m i = tn G m i := by
  unfold tn
  rw [h i hi]

/-! ### what goes over the line, and what is heard -/
abbrev Sts := List (Abs × Int)
def sat (S : Sts) (n : Int) : Abs × Int := S.getD n.toNat ([], 0)
def vat (V : List Bool) (n : Int) : Bool := V.getD n.toNat false
def snB (S : Sts) (T : LL) (V : List Bool) (s : Int) : Bool := decide (0 ≤ sN s T) && vat V (sN s T) && gB (sat S (sN s T)).1 (sE s T).2.2.1 (sE s T).2.2.2.1
def snX (S : Sts) (T : LL) (s : Int) : Int := rb (gV (sat S (sN s T)).1 (sE s T).2.2.1 (sE s T).2.2.2.1) (sE s T).2.2.2.2
def sbN (S : Sts) (T : LL) (V : List Bool) (s : Int) : Int := if snB S T V s = true then sN s T else -1
def sbX (S : Sts) (T : LL) (V : List Bool) (s : Int) : Int := if snB S T V s = true then snX S T s else 0
def lowF (_ : Nat) : Bool := false
def frF (S : Sts) (T : LL) (V : List Bool) (P : List S2) (s : Int) : Nat → Bool := if snB S T V s = true then sq P s (frm (snX S T s) false) P.length else lowF
def hrB (S : Sts) (T : LL) (V : List Bool) (P : List S2) (s : Int) : Bool := snB S T V s && decide (te (frF S T V P s) = 0) && !tp (frF S T V P s)
def hrV (S : Sts) (T : LL) (V : List Bool) (P : List S2) (s : Int) : Int := if hrB S T V P s = true then tb (frF S T V P s) else 0
def hr (S : Sts) (T : LL) (V : List Bool) (P : List S2) : Hr := fun s => if 1 ≤ s ∧ s ≤ 16 ∧ hrB S T V P s = true then some (hrV S T V P s) else none
theorem tb_byt (F : Nat → Bool) : byt (tb F) := by
  unfold tb byt
  split
  · omega
  · have := Ua.val_lt F 8
    omega
theorem hrV_byt (S : Sts) (T : LL) (V : List Bool) (P : List S2) (s : Int) : byt (hrV S T V P s) := by
  unfold hrV
  split
  · exact tb_byt _
  · unfold byt; omega
theorem hr_ok (S : Sts) (T : LL) (V : List Bool) (P : List S2) : okH (hr S T V P) := fun n y h => by
  unfold hr at h
  split at h
  · injection h with h; subst h; exact hrV_byt S T V P n
  · cases h

/-! ### a round -/
def rdE (S : Sts) (T : LL) (V : List Bool) : Int := if 1 ≤ S.length ∧ S.length ≤ 32 ∧ T.length = S.length ∧ V.length = S.length then tE T else 1
def rdS (S : Sts) (T : LL) (V : List Bool) (h : Hr) : Sts := (List.range S.length).map fun (i : Nat) => if vat V i = true then apS h (lat T i) (sat S i) else sat S i
theorem rdS_len (S : Sts) (T : LL) (V : List Bool) (h : Hr) : (rdS S T V h).length = S.length := by simp [rdS]
theorem rdS_at (S : Sts) (T : LL) (V : List Bool) (h : Hr) {i : Nat} (hi : i < S.length) : sat (rdS S T V h) i = if vat V i = true then apS h (lat T i) (sat S i) else sat S i := by
  show (rdS S T V h).getD ((i : Int)).toNat _ = _
  rw [Int.toNat_natCast, List.getD_eq_getElem?_getD]
  unfold rdS
  rw [List.getElem?_map, List.getElem?_range hi]
  rfl

end Go.Proofs.YtilacdjekdngkaaGreatDoor.Pa

/- A node's files in memory: a store behind a pointer (a map of files, a count), lists of files, and what stays as it was when other blocks are written. -/
namespace Go.Proofs.YtilacdjekdngkaaGreatDoor.Fs
open Go.RowKit Go.Maps
open Go.Proofs.YtilacdjekdngkaaGreatDoor.Fl (R4 z4 K4 rec4 rat goodF goodFB okR okL doE newR file)
open Go.Proofs.YtilacdjekdngkaaGreatDoor.Rw (Rd Ow At)
set_option maxRecDepth 100000

/-- A file in a list: its number, its permissions, where its records lie, and what they are. -/
structure Ent where
  n : Int
  p : Int
  a : Option Addr
  cap : Nat
  l : List R4
def Ent.sl (c : Ent) : Value := .slice c.a c.l.length c.cap
def Ent.file (c : Ent) : Value := Fl.file c.p c.sl
def Ent.abs (c : Ent) : Fil := (c.n, c.p, c.l)
def E3 : Rw.Kind Ent := ⟨fun c => [.int .i64 c.n, .int .i64 c.p, c.sl], 3, by decide, fun _ => rfl, fun _ u h => by simp [Ent.sl] at h; rcases h with rfl | rfl | rfl <;> rfl, ⟨0, 0, none, 0, []⟩⟩
theorem abs_key (c : Ent) : key c.abs = c.n := rfl

/-! ### what is as it was -/
/-- Of what was there nothing has turned but blocks of G. -/
structure Only (G : Nat → Prop) (w w' : World) : Prop where
  os : w'.os = w.os
  tape : w'.tape = w.tape
  output : w'.output = w.output
  size : w.heap.size ≤ w'.heap.size
  block : ∀ k, k < w.heap.size → ¬ G k → w'.heap[k]? = w.heap[k]?
/-- G, and what is new. -/
def Fx (G : Nat → Prop) (w w' : World) (k : Nat) : Prop := G k ∨ (w.heap.size ≤ k ∧ k < w'.heap.size)
section
variable {G : Nat → Prop} {w w' w'' : World}
theorem Only.refl (G : Nat → Prop) (w : World) : Only G w w := ⟨rfl, rfl, rfl, Nat.le_refl _, fun _ _ _ => rfl⟩
theorem Only.of_below (h : Below w.heap.size w w') : Only G w w' := ⟨h.os, h.tape, h.output, h.size, fun k hk _ => h.block k hk⟩
theorem Only.mono {G' : Nat → Prop} (h : Only G w w') (hg : ∀ k, k < w.heap.size → G k → G' k) : Only G' w w' := ⟨h.os, h.tape, h.output, h.size, fun k hk hn => h.block k hk fun g => hn (hg k hk g)⟩
theorem Only.trans {G' : Nat → Prop} (h : Only G w w') (k : Only G' w' w'') (hg : ∀ k, k < w.heap.size → G' k → G k) : Only G w w'' :=
  ⟨k.os.trans h.os, k.tape.trans h.tape, k.output.trans h.output, Nat.le_trans h.size k.size, fun i hi hn => (k.block i (Nat.lt_of_lt_of_le hi h.size) fun g => hn (hg i hi g)).trans (h.block i hi hn)⟩
theorem Only.then (h : Only G w w') (b : Below w'.heap.size w' w'') : Only G w w'' := h.trans (Only.of_below (G := fun _ => False) b) fun _ _ g => g.elim
theorem Only.set (G : Nat → Prop) (w : World) {a : Addr} (ha : G a.block) (u : Value) : Only G w (w.setCell a u) :=
  ⟨rfl, rfl, rfl, by simp [World.setCell], fun k _ hn => Below.heap_setCell w a u k fun e => hn (e ▸ ha)⟩
theorem Only.grown {b : Nat} (hb : G b) (h : w.grownBy w' (some b)) : Only G w w' := ⟨h.os, h.tape, h.output, h.size, fun k hk hn => h.block k hk fun e => hn (by injection e with e; exact e ▸ hb)⟩
theorem Only.below {B : Nat} (h : Only G w w') (hB : B ≤ w.heap.size) (hG : ∀ k, G k → B ≤ k) : Below B w w' :=
  ⟨h.os, h.tape, h.output, h.size, fun k hk => h.block k (by omega) fun g => by have := hG k g; omega⟩
theorem Only.cell (h : Only G w w') {a : Addr} {v : Value} (hc : w.cell? a = some v) (hn : ¬ G a.block) : w'.cell? a = some v :=
  (World.cell?_of_block (h.block a.block (World.block_lt_of_cell? _ _ hc) hn)).trans hc
theorem Fx.of {k : Nat} (h : G k) : Fx G w w' k := .inl h
theorem Fx.not {k : Nat} (h : ¬ G k) (hk : k < w.heap.size) : ¬ Fx G w w' k := by rintro (g | ⟨g, _⟩); exact h g; omega
theorem Fx.low (h : ∀ k, G k → k < w.heap.size) (hs : w.heap.size ≤ w'.heap.size) : ∀ k, Fx G w w' k → k < w'.heap.size := by
  rintro k (g | ⟨_, g⟩)
  · have := h k g; omega
  · exact g
end

section
variable {α : Type} {K : Rw.Kind α} {G : Nat → Prop} {w w' : World} {v : Value} {l : List α}
theorem rd_only (h : Rd K w v l) (hn : 0 < l.length → ∀ k, v.ownBlock = some k → ¬ G k) (ho : Only G w w') : Rd K w' v l := by
  obtain ⟨a, cap, rfl, h1, h2, h3⟩ := h
  refine ⟨a, cap, rfl, h1, h2, fun h0 => ?_⟩
  obtain ⟨b, off, rfl, hA⟩ := h3 h0
  exact ⟨b, off, rfl, fun i hi j u hu => ho.cell (hA i hi j u hu) (hn h0 b rfl)⟩
/-- Where it lies. -/
theorem rd_low (h : Rd K w v l) (h0 : 0 < l.length) : ∀ k, v.ownBlock = some k → k < w.heap.size := by
  obtain ⟨a, cap, rfl, h1, h2, h3⟩ := h
  obtain ⟨b, off, rfl, hA⟩ := h3 h0
  intro k hk
  obtain rfl : b = k := by simpa [Value.ownBlock] using hk
  obtain ⟨j, hj⟩ : ∃ u, (K.enc (l.getD 0 K.dft))[0]? = some u := ⟨_, List.getElem?_eq_getElem (by rw [K.len]; exact K.pos)⟩
  exact World.block_lt_of_cell? _ _ (hA 0 h0 0 _ hj)
theorem rd_fx (h : Rd K w v l) (hn : 0 < l.length → ∀ k, v.ownBlock = some k → ¬ G k) : 0 < l.length → ∀ k, v.ownBlock = some k → ¬ Fx G w w' k :=
  fun h0 k hk => Fx.not (hn h0 k hk) (rd_low h h0 k hk)
theorem ow_only {B E : Nat} (h : Ow K w B E v l) (hn : ∀ k, v.ownBlock = some k → ¬ G k) (ho : Only G w w') : Ow K w' B E v l := by
  obtain ⟨h1, h2⟩ := h
  refine ⟨h1, ?_⟩
  rcases h2 with h2 | ⟨g, cap, cur, rfl, hB, hh, r⟩
  · exact .inl h2
  · exact .inr ⟨g, cap, cur, rfl, hB, (ho.block g (lt_of_block hh) (hn g rfl)).trans hh, r⟩
theorem ow_new {B E : Nat} (h : Ow K w B E v l) : ∀ k, v.ownBlock = some k → B ≤ k ∧ k < w.heap.size := fun k hk => World.ownsRow.lt h k hk
end

/-! ### the map -/
def Rh (v : Value) : Option (DataW Value × List MemPlace) := some (.held v, [])
def ent (c : Ent) : Lit × DataW Value := (.int .i64 c.n, .held c.file)
def dat (C : List Ent) : DataW Value := .map (C.map ent)
theorem law : Keyed Tryz.prog 3 := int_keyed Tryz.underlying3
theorem zeroF (w : World) : (zeroValue 67).run Tryz.prog w = .ok (file 0 (.slice none 0 0)) w := by kernel_rfl
def Wf (n : Int) : Prop := (Lit.int .i64 n).wf = true
theorem keyI {n : Int} (h : Wf n) : keyOf Tryz.prog 3 (.int .i64 n) = some (.int .i64 n) := keyOf_int_mk Tryz.underlying3 h
theorem insert_ent (c : Ent) : ∀ l : List Ent, DataW.insert (ent c) (l.map ent) = (ins Ent.n c l).map ent
  | [] => rfl
  | y :: r => by
    simp only [List.map_cons, DataW.insert, ins, ent, Lit.before, decide_eq_true_eq]
    split
    · rfl
    · have := insert_ent c r
      simp only [ent] at this
      rw [this]
      rfl
theorem filter_ent (c : Ent) (l : List Ent) : (l.map ent).filter (fun p => !p.1.sameKey (ent c).1) = (l.filter fun y => decide (¬ y.n = c.n)).map ent := by
  rw [List.filter_map]
  congr 1
  exact congrArg (fun q => List.filter q l) (funext fun x => by simp [ent, Lit.sameKey])
theorem dat_put (c : Ent) (l : List Ent) : (dat l).put (.int .i64 c.n) (.held c.file) = dat (put Ent.n c l) := by
  unfold dat DataW.put put
  simp only
  rw [← insert_ent, ← filter_ent]
  rfl
theorem find_ent (n : Int) : ∀ l : List Ent, (l.map ent).find? (fun p => p.1.sameKey (.int .i64 n)) = (look Ent.n n l).map ent := fun l => by
  unfold look
  rw [List.find?_map]
  congr 1
  exact congrArg (fun q => List.find? q l) (funext fun x => by simp [ent, Lit.sameKey])
/-- What the map gives for a number. -/
def lv (C : List Ent) (n : Int) : Value := match look Ent.n n C with | none => file 0 (.slice none 0 0) | some c => c.file
def lb (C : List Ent) (n : Int) : Bool := (look Ent.n n C).isSome
theorem dat_at (n : Int) (l : List Ent) : (dat l).atKey (.int .i64 n) (.held (file 0 (.slice none 0 0))) = .held (lv l n) := by
  unfold dat DataW.atKey lv
  simp only [find_ent]
  cases look Ent.n n l <;> rfl
theorem dat_has (n : Int) (l : List Ent) : Maps.has (dat l) (.int .i64 n) = lb l n := by
  have e : ∀ q : Lit × DataW Value → Bool, (l.map ent).any q = ((l.map ent).find? q).isSome := fun q => by
    rw [Bool.eq_iff_iff, List.any_eq_true, List.find?_isSome]
  show (l.map ent).any (fun p => p.1.sameKey (.int .i64 n)) = _
  rw [e, find_ent, Option.isSome_map]
  rfl
theorem tight {w : World} {b n : Nat} {C : List Ent} (h : w.ownsMap Tryz.prog 3 Rh b n (dat C)) : w.ownsMap Tryz.prog 3 Rh b C.length (dat C) := by
  obtain ⟨es, clock, hb, F, hs, hD⟩ := h
  refine ⟨es, clock, hb, F, ?_, hD⟩
  have e : C.map ent = (es.toList.map (Go.WideElems.rg Tryz.prog 3 Rh)).foldr DataW.insert [] := by unfold dat at hD; injection hD
  have := congrArg List.length e
  rw [length_read, List.length_map] at this
  omega

/-- The map m is the files C. -/
def Mp (w : World) (F : Nat → Prop) (m : Value) (C : List Ent) : Prop := (m = .map none ∧ C = []) ∨ ∃ b, m = .map (some b) ∧ F b ∧ w.ownsMap Tryz.prog 3 Rh b C.length (dat C)
theorem run_look {w : World} {F : Nat → Prop} {m : Value} {C : List Ent} (M : Mp w F m C) {n : Int} (hn : Wf n) (c : Bool) :
    (Instr.lookup 95 m (.int .i64 n) c).run Tryz.prog w = .ok (if c then .tuple #[lv C n, .bool (lb C n)] else lv C n) w := by
  rcases M with ⟨rfl, rfl⟩ | ⟨b, rfl, _, h⟩
  · exact Maps.look_nil c law Tryz.underlying95 (zeroF w) (keyI hn)
  · cases c with
    | false =>
      obtain ⟨v, ps, hr, hv⟩ := h.lookup law Tryz.underlying95 (zeroF w) (zd := .held (file 0 (.slice none 0 0))) (zp := []) rfl (keyI hn)
      rw [dat_at] at hv
      have : v = lv C n := by simp [Rh] at hv; exact hv.1
      rw [hr, this]
      rfl
    | true =>
      obtain ⟨v, ps, hr, hv⟩ := h.look_ok law Tryz.underlying95 (zeroF w) (zd := .held (file 0 (.slice none 0 0))) (zp := []) rfl (keyI hn)
      rw [dat_at] at hv
      have : v = lv C n := by simp [Rh] at hv; exact hv.1
      rw [hr, this, dat_has]
      rfl
theorem run_put {w : World} {F : Nat → Prop} {b : Nat} {C : List Ent} (M : Mp w F (.map (some b)) C) (c : Ent) (hn : Wf c.n) (hl : C.length < maxLen) :
    ∃ w', (Instr.mapUpdate 95 (.map (some b)) (.int .i64 c.n) c.file).run Tryz.prog w = .ok () w' ∧ Mp w' F (.map (some b)) (put Ent.n c C) ∧ w.grownBy w' (some b) := by
  rcases M with ⟨h, _⟩ | ⟨b', e, hF, h⟩
  · cases h
  · obtain rfl : b = b' := by injection e with e; injection e
    obtain ⟨w', hr, h', hg⟩ := h.update law Tryz.underlying95 hl (keyI hn) (d := .held c.file) (ps := []) rfl
    rw [dat_put] at h'
    exact ⟨w', hr, .inr ⟨b, rfl, hF, tight h'⟩, hg⟩
section
variable {ops : Array Oper} {rest : List Oper} {o : Oper} {a : Act} {Q : Exit → Act → World → Prop} {K : Act → World → Prop} {w : World} {F : Nat → Prop}
theorem at_look {m : Value} {C : List Ent} (hgd : Region.wanted o (yielded ops a.tmps) = true) (p x : Operand) (c : Bool) (hop : o.op = .lookup 95 p x c) (hm : a.eval p = m) (M : Mp w F m C) (n : Int) (hx : a.eval x = .int .i64 n) (hn : Wf n)
    (h : wpList Tryz.prog ops Q rest (a.put o.dst (if c then .tuple #[lv C n, .bool (lb C n)] else lv C n)) w) : wpList Tryz.prog ops Q (o :: rest) a w := by
  refine BigFrame.wpList_want hgd fun K' hK => ?_
  have hr := run_look M hn c
  unfold Oper.wp
  simp [execOp, hop, hm, hx, hr, Result.andThen]
  exact hK _ _ (by simpa using h)
theorem wp_put {b : Nat} {C : List Ent} (p x v : Operand) (hop : o.op = .mapUpdate 95 p x v) (hm : a.eval p = .map (some b)) (M : Mp w F (.map (some b)) C) (c : Ent) (hx : a.eval x = .int .i64 c.n) (hv : a.eval v = c.file) (hn : Wf c.n) (hl : C.length < maxLen)
    (h : ∀ w', Mp w' F (.map (some b)) (put Ent.n c C) → w.grownBy w' (some b) → K (a.put o.dst undef) w') : o.wp Tryz.prog a w K Q := by
  obtain ⟨w', hr, h1, h2⟩ := run_put M c hn hl
  unfold Oper.wp
  simp [execOp, hop, hm, hx, hv, hr, Result.andThen]
  exact h w' h1 h2
end
section
variable {w w' : World} {F G : Nat → Prop} {m : Value} {C : List Ent}
theorem Mp.only (h : Mp w F m C) (hn : ∀ k, F k → ¬ G k) (ho : Only G w w') : Mp w' F m C := by
  rcases h with h | ⟨b, rfl, hF, h⟩
  · exact .inl h
  · have hlt := h.lt
    obtain ⟨es, clock, hb, Ft, hs, hD⟩ := h
    exact .inr ⟨b, rfl, hF, es, clock, (ho.block b hlt (hn b hF)).trans hb, Ft, hs, hD⟩
theorem Mp.wide (h : Mp w F m C) (hF : ∀ k, F k → G k) : Mp w G m C := by
  rcases h with h | ⟨b, rfl, hb, h⟩
  · exact .inl h
  · exact .inr ⟨b, rfl, hF b hb, h⟩
theorem Mp.kept (h : Mp w F m C) (hb : ∀ b, m = .map (some b) → w'.heap[b]? = w.heap[b]?) : Mp w' F m C := by
  rcases h with h | ⟨b, rfl, hF, h⟩
  · exact .inl h
  · obtain ⟨es, clock, h1, Ft, hs, hD⟩ := h
    exact .inr ⟨b, rfl, hF, es, clock, (hb b rfl).trans h1, Ft, hs, hD⟩
theorem Mp.isMap {b : Nat} (h : Mp w F (.map (some b)) C) : F b ∧ ∃ es clock, w.heap[b]? = some (.map es clock) := by
  rcases h with ⟨h, _⟩ | ⟨b', e, hF, h⟩
  · cases h
  · obtain rfl : b = b' := by injection e with e; injection e
    obtain ⟨es, clock, hb, _⟩ := h
    exact ⟨hF, es, clock, hb⟩
end

/-! ### the store -/
def apart (c c' : Ent) : Prop := ∀ k, c.sl.ownBlock = some k → c'.sl.ownBlock ≠ some k
structure Sto (w : World) (s : Nat) (F : Nat → Prop) (m : Value) (C : List Ent) (d : Int) : Prop where
  row : w.heap[s]? = some (.cells #[m, .int .i64 d] 97 (0, 0))
  foot : F s
  mp : Mp w F m C
  own : ∀ c ∈ C, Ow K4 w 0 71 c.sl c.l
  mine : ∀ c ∈ C, ∀ k, c.sl.ownBlock = some k → F k
  apart : C.Pairwise apart
  ok : OkA (C.map Ent.abs)
  low : ∀ k, F k → k < w.heap.size
/-- The store at s, whose blocks are of F, has the files A, and counted d. -/
def St (w : World) (s : Nat) (F : Nat → Prop) (A : Abs) (d : Int) : Prop := ∃ m C, Sto w s F m C d ∧ C.map Ent.abs = A
section
variable {w w' : World} {s : Nat} {F G : Nat → Prop} {m : Value} {C : List Ent} {A : Abs} {d : Int}
theorem Sto.only (h : Sto w s F m C d) (hn : ∀ k, F k → ¬ G k) (ho : Only G w w') : Sto w' s F m C d :=
  ⟨(ho.block s (lt_of_block h.row) (hn s h.foot)).trans h.row, h.foot, h.mp.only hn ho, fun c hc => ow_only (h.own c hc) (fun k hk => hn k (h.mine c hc k hk)) ho, h.mine, h.apart, h.ok, fun k hk => Nat.lt_of_lt_of_le (h.low k hk) ho.size⟩
theorem Sto.wide (h : Sto w s F m C d) (hF : ∀ k, F k → G k) (hl : ∀ k, G k → k < w.heap.size) : Sto w s G m C d :=
  ⟨h.row, hF s h.foot, h.mp.wide hF, h.own, fun c hc k hk => hF k (h.mine c hc k hk), h.apart, h.ok, hl⟩
theorem Sto.below (h : Sto w s F m C d) (hb : Below w.heap.size w w') : Sto w' s F m C d := h.only (G := fun _ => False) (fun _ _ g => g) (Only.of_below hb)
theorem St.only (h : St w s F A d) (hn : ∀ k, F k → ¬ G k) (ho : Only G w w') : St w' s F A d := by
  obtain ⟨m, C, h, e⟩ := h
  exact ⟨m, C, h.only hn ho, e⟩
theorem St.wide (h : St w s F A d) (hF : ∀ k, F k → G k) (hl : ∀ k, G k → k < w.heap.size) : St w s G A d := by
  obtain ⟨m, C, h, e⟩ := h
  exact ⟨m, C, h.wide hF hl, e⟩
theorem St.below (h : St w s F A d) (hb : Below w.heap.size w w') : St w' s F A d := by
  obtain ⟨m, C, h, e⟩ := h
  exact ⟨m, C, h.below hb, e⟩
theorem St.fx (h : St w s F A d) (hb : Below w.heap.size w w') : St w' s (Fx F w w') A d := by
  have hl : ∀ k, F k → k < w.heap.size := by obtain ⟨m, C, h, _⟩ := h; exact h.low
  exact (h.below hb).wide (fun k hk => .inl hk) (Fx.low hl hb.size)
theorem St.low (h : St w s F A d) : ∀ k, F k → k < w.heap.size := by obtain ⟨m, C, h, _⟩ := h; exact h.low
theorem St.foot (h : St w s F A d) : F s := by obtain ⟨m, C, h, _⟩ := h; exact h.foot
theorem St.okA (h : St w s F A d) : OkA A := by obtain ⟨m, C, h, e⟩ := h; rw [← e]; exact h.ok
theorem Sto.len (h : Sto w s F m C d) : C.length ≤ 64 := by have := h.ok.len; rwa [List.length_map] at this
theorem abs_look (n : Int) (C : List Ent) : look key n (C.map Ent.abs) = (look Ent.n n C).map Ent.abs := map_look (κ := Ent.n) (κ' := key) abs_key n C
theorem abs_put (c : Ent) (C : List Ent) : (put Ent.n c C).map Ent.abs = put key c.abs (C.map Ent.abs) := map_put (κ := Ent.n) (κ' := key) abs_key c C
/-- The file of a number, as the map has it. -/
theorem Sto.find (h : Sto w s F m C d) {n : Int} {c : Ent} (hc : look Ent.n n C = some c) : Ow K4 w 0 71 c.sl c.l ∧ goodF c.p c.l ∧ okL c.l ∧ c.n = n ∧ (0 ≤ n ∧ n ≤ 63) ∧ c ∈ C := by
  obtain ⟨hm, hk⟩ := look_some hc
  have hma : c.abs ∈ C.map Ent.abs := List.mem_map_of_mem hm
  have := h.ok.nm _ hma
  exact ⟨h.own c hm, h.ok.good _ hma, h.ok.ok _ hma, hk, hk ▸ this, hm⟩
/-- A file's block is neither the store's nor the map's. -/
theorem Sto.off (h : Sto w s F m C d) {c : Ent} (hc : c ∈ C) : c.sl.ownBlock ≠ some s ∧ ∀ b, m = .map (some b) → c.sl.ownBlock ≠ some b := by
  refine ⟨(h.own c hc).apart h.row (by decide), fun b hb e => ?_⟩
  subst hb
  obtain ⟨_, es, clock, hm⟩ := h.mp.isMap
  obtain ⟨_, h2⟩ := h.own c hc
  rcases h2 with ⟨e2, _⟩ | ⟨g, cap, cur, e2, _, hh, _⟩
  · rw [e2] at e; cases e
  · rw [e2] at e
    obtain rfl : g = b := by simpa [Value.ownBlock] using e
    rw [hh] at hm
    cases hm
theorem Sto.map_ne {b : Nat} (h : Sto w s F (.map (some b)) C d) : b ≠ s := fun e => by
  subst e
  obtain ⟨_, es, clock, hm⟩ := h.mp.isMap
  rw [h.row] at hm
  cases hm
end

/-! ### lists of files -/
structure Lst (F : Nat → Prop) (w : World) (v : Value) (L : List Ent) : Prop where
  rd : Rd E3 w v L
  off : 0 < L.length → ∀ k, v.ownBlock = some k → ¬ F k
  file : ∀ c ∈ L, Rd K4 w c.sl c.l
  foff : ∀ c ∈ L, 0 < c.l.length → ∀ k, c.sl.ownBlock = some k → ¬ F k
def Ls (F : Nat → Prop) (w : World) (v : Value) (A : Abs) : Prop := ∃ L, Lst F w v L ∧ L.map Ent.abs = A
section
variable {w w' : World} {F G : Nat → Prop} {v : Value} {L : List Ent} {A : Abs}
theorem Lst.only (h : Lst F w v L) (ho : Only F w w') : Lst (Fx F w w') w' v L :=
  ⟨rd_only h.rd h.off ho, rd_fx h.rd h.off, fun c hc => rd_only (h.file c hc) (h.foff c hc) ho, fun c hc => rd_fx (h.file c hc) (h.foff c hc)⟩
theorem Lst.mono (h : Lst F w v L) (hg : ∀ k, k < w.heap.size → G k → F k) : Lst G w v L :=
  ⟨h.rd, fun h0 k hk g => h.off h0 k hk (hg k (rd_low h.rd h0 k hk) g), h.file, fun c hc h0 k hk g => h.foff c hc h0 k hk (hg k (rd_low (h.file c hc) h0 k hk) g)⟩
theorem Lst.below (h : Lst F w v L) (hb : Below w.heap.size w w') : Lst F w' v L :=
  ⟨h.rd.below hb, h.off, fun c hc => (h.file c hc).below hb, h.foff⟩
theorem Ls.only (h : Ls F w v A) (ho : Only F w w') : Ls (Fx F w w') w' v A := by obtain ⟨L, h, e⟩ := h; exact ⟨L, h.only ho, e⟩
theorem Ls.mono (h : Ls F w v A) (hg : ∀ k, k < w.heap.size → G k → F k) : Ls G w v A := by obtain ⟨L, h, e⟩ := h; exact ⟨L, h.mono hg, e⟩
theorem Ls.below (h : Ls F w v A) (hb : Below w.heap.size w w') : Ls F w' v A := by obtain ⟨L, h, e⟩ := h; exact ⟨L, h.below hb, e⟩
end

/-- The document's own store at r: a list of files, and a count; its blocks, and all that is read of it, are not of F. -/
structure Rst (w : World) (r : Nat) (F : Nat → Prop) (v : Value) (L : List Ent) (d : Int) : Prop where
  row : w.heap[r]? = some (.cells #[v, .int .i64 d] 41 (0, 0))
  off : ¬ F r
  list : Lst (fun k => F k ∨ k = r) w v L
  ok : OkA (L.map Ent.abs)
def Rs (w : World) (r : Nat) (F : Nat → Prop) (A : Abs) (d : Int) : Prop := ∃ v L, Rst w r F v L d ∧ L.map Ent.abs = A
section
variable {w w' : World} {r : Nat} {F G : Nat → Prop} {v : Value} {L : List Ent} {A : Abs} {d : Int}
theorem Rst.only (h : Rst w r F v L d) (ho : Only F w w') : Rst w' r (Fx F w w') v L d :=
  ⟨(ho.block r (lt_of_block h.row) h.off).trans h.row, Fx.not h.off (lt_of_block h.row),
    (h.list.only (ho.mono fun _ _ g => .inl g)).mono fun k _ g => by
      rcases g with (g | g) | g
      · exact .inl (.inl g)
      · exact .inr g
      · exact .inl (.inr g), h.ok⟩
theorem Rst.below (h : Rst w r F v L d) (hb : Below w.heap.size w w') : Rst w' r F v L d := ⟨(hb.block r (lt_of_block h.row)).trans h.row, h.off, h.list.below hb, h.ok⟩
theorem Rs.only (h : Rs w r F A d) (ho : Only F w w') : Rs w' r (Fx F w w') A d := by obtain ⟨v, L, h, e⟩ := h; exact ⟨v, L, h.only ho, e⟩
theorem Rs.below (h : Rs w r F A d) (hb : Below w.heap.size w w') : Rs w' r F A d := by obtain ⟨v, L, h, e⟩ := h; exact ⟨v, L, h.below hb, e⟩
theorem Rst.len (h : Rst w r F v L d) : L.length ≤ 64 := by have := h.ok.len; rwa [List.length_map] at this
end

end Go.Proofs.YtilacdjekdngkaaGreatDoor.Fs

/- ifs: copied, New, Denied, has, Get, by their contracts. -/
namespace Go.Proofs.YtilacdjekdngkaaGreatDoor.Fs
open Go.RowKit Go.Maps
open Go.Proofs.YtilacdjekdngkaaGreatDoor.Fl (R4 z4 K4 rec4 rat goodF goodFB okR okL doE newR file arr4 sto2 sto4 sto2_row sto2_other sto2_below sto2_size sto2_off sto4_row sto4_other sto4_below sto4_size row_cell row_frozen clone_any own_form ret_bool at4)
open Go.Proofs.YtilacdjekdngkaaGreatDoor.Rw (Rd Ow At)
set_option maxRecDepth 100000

/-- What hands back a record and one thing more. -/
theorem results_rec {fn : Func} {p r : Tmp} (h : fn.results = #[.cell p 71, .tmp r]) (tmps : Array Value) (w : World) (g : Nat) (y : R4) (v : Value)
    (hp : tmps.getD p undef = .pointer (some ⟨g, 0, none⟩)) (hr : tmps.getD r undef = v) (h1 : w.heap[g]? = some (.cells (arr4 y) 71 (0, 0))) :
    (results fn tmps).run Tryz.prog w = .ok (.tuple #[rec4 y, v]) w := by
  have e2 := run_loadVar_row (P := Tryz.prog) w g 71 71 (arr4 y) (0, 0) _ h1 Tryz.underlying71 rfl (by show _ = some 4; kernel_rfl)
  have hp' : tmps[p]?.getD undef = .pointer (some ⟨g, 0, none⟩) := by simpa using hp
  have hr' : tmps[r]?.getD undef = v := by simpa using hr
  simp only [results, h]
  simp [Result.andThen, hp', hr', asAddr, e2, rec4, arr4]

/-! ### looking into a store's map -/
section
variable {ops : Array Oper} {rest : List Oper} {o : Oper} {a : Act} {Q : Exit → Act → World → Prop} {w : World} {F : Nat → Prop} {m : Value} {C : List Ent}
theorem at_look0 (hgd : Region.wanted o (yielded ops a.tmps) = true) (p x : Operand) (hop : o.op = .lookup 95 p x false) (M : Mp w F m C) (hm : a.eval p = m) (n : Int) (hx : a.eval x = .int .i64 n) (hn : Wf n) (v : Value) (hv : lv C n = v)
    (h : wpList Tryz.prog ops Q rest (a.put o.dst v) w) : wpList Tryz.prog ops Q (o :: rest) a w := at_look hgd p x false hop hm M n hx hn (by rw [hv]; exact h)
theorem at_look1 (hgd : Region.wanted o (yielded ops a.tmps) = true) (p x : Operand) (hop : o.op = .lookup 95 p x true) (M : Mp w F m C) (hm : a.eval p = m) (n : Int) (hx : a.eval x = .int .i64 n) (hn : Wf n) (v : Value) (hv : lv C n = v) (b : Bool) (hb : lb C n = b)
    (h : wpList Tryz.prog ops Q rest (a.put o.dst (.tuple #[v, .bool b])) w) : wpList Tryz.prog ops Q (o :: rest) a w := at_look hgd p x true hop hm M n hx hn (by rw [hv, hb]; exact h)
end
theorem lv_none {C : List Ent} {n : Int} (h : look Ent.n n C = none) : lv C n = .agg #[.int .i64 0, .slice none 0 0] := by unfold lv; rw [h]; rfl
theorem lv_some {C : List Ent} {n : Int} {c : Ent} (h : look Ent.n n C = some c) : lv C n = .agg #[.int .i64 c.p, .slice c.a c.l.length c.cap] := by unfold lv; rw [h]; rfl
theorem lb_none {C : List Ent} {n : Int} (h : look Ent.n n C = none) : lb C n = false := by unfold lb; rw [h]; rfl
theorem lb_some {C : List Ent} {n : Int} {c : Ent} (h : look Ent.n n C = some c) : lb C n = true := by unfold lb; rw [h]; rfl

theorem run_fieldF (p : Int) (a : Option Addr) (n cap : Nat) (w : World) : (Instr.field 67 (.agg #[.int .i64 p, .slice a n cap]) 1).run Tryz.prog w = .ok (.slice a n cap) w := by kernel_rfl

/-! ### copied -/
def CopyPost (w : World) (p : Int) (l : List R4) (e : Ending) (w' : World) : Prop := ∃ u, e = .returned (file p u) ∧ Ow K4 w' w.heap.size 71 u l ∧ Below w.heap.size w w'
theorem two_files (w : World) (p : Int) (v : Value) (q : Int) (u : Value) : ((w.alloc (.cells #[.int .i64 p, v] 67)).alloc (.cells #[.int .i64 q, u] 67)).heap[w.heap.size]? = some (.cells #[.int .i64 p, v] 67 (0, 0)) ∧ ((w.alloc (.cells #[.int .i64 p, v] 67)).alloc (.cells #[.int .i64 q, u] 67)).heap[w.heap.size + 1]? = some (.cells #[.int .i64 q, u] 67 (0, 0)) ∧ Below w.heap.size w ((w.alloc (.cells #[.int .i64 p, v] 67)).alloc (.cells #[.int .i64 q, u] 67)) ∧ ((w.alloc (.cells #[.int .i64 p, v] 67)).alloc (.cells #[.int .i64 q, u] 67)).heap.size = w.heap.size + 2 := by
  refine ⟨(Below.heap_alloc _ _ _ (by simp)).trans (heap_alloc_new w _), ?_, ((Below.refl w.heap.size w).alloc (Nat.le_refl _) _).alloc (by simp) _, by simp⟩
  have := heap_alloc_new (w.alloc (.cells #[.int .i64 p, v] 67)) (.cells #[.int .i64 q, u] 67)
  simpa using this
def Bx (g : Nat) (p : Int) (v : Value) (W : World) : Prop := W.heap[g]? = some (.cells #[.int .i64 p, v] 67 (0, 0))
set_option maxHeartbeats 1000000 in
theorem copied_any (w : World) (p : Int) (v : Value) (l : List R4) (R : Rd K4 w v l) (hl : l.length ≤ 260) : Calls Tryz.prog 31 #[file p v] w (CopyPost w p l) := by
  obtain ⟨h1, h2, hB, hz⟩ := two_files w p v 0 (.slice none 0 0)
  have H1 := Lib.hid h1
  have H2 := Lib.hid h2
  have HB := Lib.hid hB
  have HZ := Lib.hid hz
  have RR := Lib.hid R
  have HL := Lib.hid hl
  obtain ⟨a, cap, rfl, _⟩ := R.slice
  clear h1 h2 hB hz R hl
  generalize hn : l.length = n at *
  have HN := Lib.hid hn
  clear hn
  unfold file at *
  go_enter Tryz.func31, Tryz.ntmps31
  go_wp2_with fail
  generalize ((w.alloc (.cells #[.int .i64 p, .slice a n cap] 67)).alloc (.cells #[.int .i64 0, .slice none 0 0] 67)) = W at *
  have r0 := Sc.cell_in (C := Bx w.heap.size p (.slice a n cap)) (a := ⟨w.heap.size, 0, none⟩) (fun W' h => row_cell h 0)
  have r1 := Sc.cell_in (C := Bx w.heap.size p (.slice a n cap)) (a := ⟨w.heap.size, 1, none⟩) (fun W' h => row_cell h 1)
  have C0 : Bx w.heap.size p (.slice a n cap) W.drew := H1.out
  have ne : Nonempty (Sc.In (Bx w.heap.size p (.slice a n cap))) := ⟨⟨_, C0⟩⟩
  refine Sc.start (Bx w.heap.size p (.slice a n cap)) [(false, 0), (false, 1), (false, 2), (false, 3), (true, 4), (false, 5), (true, 6)] (by kernel_rfl) (by kernel_rfl) (by kernel_rfl) C0 ?_
  dsimp only [Sd.picks, List.getElem?_cons_succ, List.getElem?_cons_zero]
  repeat (refine Sd.lit ?_; quiet_step (fail); refine wpQuiet_nil ?_)
  refine Sd.call (by rfl) (fun K hK => ?_)
  go_simp
  have B0 := Lib.hid (HB.out.trans (((Below.refl W.heap.size W).drew).mono HB.out.size))
  refine (clone_any _ _ l (RR.out.below B0.out) (by rw [HN.out]; exact HL.out)).mono ?_
  rintro e w2 ⟨u, rfl, o2, b2⟩
  have hzz := HZ.out
  have O2 := Lib.hid o2
  have B2 := Lib.hid (B0.out.trans (b2.mono (by show w.heap.size ≤ W.heap.size; omega)))
  have G1 : w2.heap[w.heap.size]? = _ := (b2.block _ (by show w.heap.size < W.heap.size; omega)).trans C0
  have G2 := (b2.block (w.heap.size + 1) (by show w.heap.size + 1 < W.heap.size; omega)).trans H2.out
  have N2 : u.ownBlock ≠ some (w.heap.size + 1) := o2.range (.inl (by show _ < W.heap.size; omega))
  have hWz : w.heap.size + 2 ≤ W.drew.heap.size := by show _ ≤ W.heap.size; omega
  obtain ⟨au, cu, rfl, _⟩ := o2.slice
  refine hK _ _ (Sc.Cl.of G1) ?_
  clear hK K b2 o2 B0 C0 HB H1 H2 r0 r1 RR
  repeat (refine Sd.lit ?_; quiet_step (fail); refine wpQuiet_nil ?_)
  refine Sd.call (by rfl) (fun K hK => ?_)
  have c0 : w2.cell? ⟨w.heap.size + 1, 0, none⟩ = some (.int .i64 0) := row_cell G2 0
  have c1 : w2.cell? ⟨w.heap.size + 1, 1, none⟩ = some (.slice none 0 0) := row_cell G2 1
  have f0 := row_frozen G2 0
  have f1 := row_frozen G2 1
  have RA := Lib.hid (sto2_row G2 p (.slice au l.length cu))
  have OA := Lib.hid (sto2_off (u := .slice au l.length cu) O2.out N2 p)
  have BA := Lib.hid (sto2_below (p := p) (v := .slice au l.length cu) B2.out (show w.heap.size ≤ w.heap.size + 1 by omega))
  have L1 : Bx w.heap.size p (.slice a n cap) (sto2 w2 (w.heap.size + 1) p (.slice au l.length cu)) := sto2_other G1 (by omega)
  have hWy := Lib.hid hWz
  clear G1 G2 O2 B2 N2 hWz hzz HZ
  go_simp
  refine hK _ _ (Sc.Cl.of L1) ?_
  clear hK K c0 c1 f0 f1
  show Sd.wpSd _ _ _ _ _ _ (sto2 w2 (w.heap.size + 1) p (.slice au l.length cu))
  generalize sto2 w2 (w.heap.size + 1) p (.slice au l.length cu) = w3 at *
  refine Sd.done ?_
  go_wp2
  (try simp only [Exit.inBlock, Exit.then])
  refine bodyPost_ret (v := file p (.slice au l.length cu)) ?_ rfl ⟨_, rfl, OA.out.low (by have := hWy.out; omega), BA.out⟩
  exact results_cell_row (p := 2) rfl _ _ (w.heap.size + 1) 67 _ (0, 0) _ rfl RA.out Tryz.underlying67 rfl (by show _ = some 2; kernel_rfl)

/-! ### New, Denied -/
theorem new_any (w : World) : Calls Tryz.prog 21 #[] w fun e w' => e = .returned (.pointer (some ⟨w.heap.size, 0, none⟩)) ∧ w' = w.alloc (.cells #[.map none, .int .i64 0] 97) := by
  go_enter Tryz.func21, Tryz.ntmps21
  go_wp2
  go_ret
  exact ⟨rfl, rfl⟩
theorem denied_any {w : World} {s : Nat} {F : Nat → Prop} {m : Value} {C : List Ent} {d : Int} (S : Sto w s F m C d) :
    Calls Tryz.prog 11 #[.pointer (some ⟨s, 0, none⟩)] w fun e w' => e = .returned (.int .i64 d) ∧ Below w.heap.size w w' := by
  have c1 : w.cell? ⟨s, 1, none⟩ = some (.int .i64 d) := row_cell S.row 1
  clear S
  go_enter Tryz.func11, Tryz.ntmps11
  go_wp2
  go_ret
  exact ⟨rfl, Below.refl _ _⟩
theorem denied_nil (w : World) : Calls Tryz.prog 11 #[.pointer none] w fun e w' => e = .returned (.int .i64 0) ∧ Below w.heap.size w w' := by
  go_enter Tryz.func11, Tryz.ntmps11
  go_wp2
  go_ret
  exact ⟨rfl, Below.refl _ _⟩

end Go.Proofs.YtilacdjekdngkaaGreatDoor.Fs

/- ifs: has, Get, by their contracts. -/
namespace Go.Proofs.YtilacdjekdngkaaGreatDoor.Fs
open Go.RowKit Go.Maps
open Go.Proofs.YtilacdjekdngkaaGreatDoor.Fl (R4 z4 K4 rec4 rat goodF goodFB okR okL doE newR file arr4 sto2 sto4 sto2_row sto2_other sto2_below sto2_size sto2_off sto4_row sto4_other sto4_below sto4_size row_cell row_frozen own_form ret_bool at4)
open Go.Proofs.YtilacdjekdngkaaGreatDoor.Rw (Rd Ow At)
set_option maxRecDepth 100000

theorem gB_none {C : List Ent} {n r : Int} (h : look Ent.n n C = none) : gB (C.map Ent.abs) n r = false := by unfold gB; rw [abs_look, h]; rfl
theorem gB_some {C : List Ent} {n r : Int} {c : Ent} (h : look Ent.n n C = some c) : gB (C.map Ent.abs) n r = decide (0 ≤ r ∧ r < c.l.length) := by unfold gB; rw [abs_look, h]; rfl
theorem gV_none {C : List Ent} {n r : Int} (h : look Ent.n n C = none) : gV (C.map Ent.abs) n r = z4 := by unfold gV; rw [abs_look, h]; rfl
theorem gV_some {C : List Ent} {n r : Int} {c : Ent} (h : look Ent.n n C = some c) : gV (C.map Ent.abs) n r = if 0 ≤ r ∧ r < c.l.length then rat c.l r.toNat else z4 := by unfold gV; rw [abs_look, h]; rfl

set_option maxHeartbeats 400000 in
theorem has_any {w : World} {s : Nat} {F : Nat → Prop} {m : Value} {C : List Ent} {d : Int} (S : Sto w s F m C d) {n : Int} (hn : Wf n) (r : Int) :
    Calls Tryz.prog 47 #[.pointer (some ⟨s, 0, none⟩), .int .i64 n, .int .i64 r] w fun e w' => e = .returned (.bool (gB (C.map Ent.abs) n r)) ∧ Below w.heap.size w w' := by
  have hF := run_fieldF
  have c0 : w.cell? ⟨s, 0, none⟩ = some m := row_cell S.row 0
  have M := Lib.hid S.mp
  have HN := Lib.hid hn
  clear S hn
  cases hk : look Ent.n n C with
  | none =>
    have E := Lib.hid (gB_none (r := r) hk)
    have L := Lib.hid (lv_none hk)
    clear hk
    by_cases hr : 0 ≤ r
    · go_enter Tryz.func47, Tryz.ntmps47
      go_wp2_with (at_lookup; refine at_look0 rfl _ _ rfl M.out rfl _ rfl HN.out _ L.out ?_)
      go_ret
      exact ⟨ret_bool (by rw [E.out]; exact decide_eq_false (by omega)), Below.refl _ _⟩
    · go_enter Tryz.func47, Tryz.ntmps47
      go_wp2_with (at_lookup; refine at_look0 rfl _ _ rfl M.out rfl _ rfl HN.out _ L.out ?_)
      go_ret
      exact ⟨ret_bool E.out.symm, Below.refl _ _⟩
  | some c =>
    have E := Lib.hid (gB_some (r := r) hk)
    have L := Lib.hid (lv_some hk)
    clear hk
    generalize c.l.length = k at *
    by_cases hr : 0 ≤ r
    · by_cases h2 : r < (k : Int)
      · go_enter Tryz.func47, Tryz.ntmps47
        go_wp2_with (at_lookup; refine at_look0 rfl _ _ rfl M.out rfl _ rfl HN.out _ L.out ?_)
        go_ret
        exact ⟨ret_bool (by rw [E.out, decide_eq_true ⟨hr, h2⟩]), Below.refl _ _⟩
      · go_enter Tryz.func47, Tryz.ntmps47
        go_wp2_with (at_lookup; refine at_look0 rfl _ _ rfl M.out rfl _ rfl HN.out _ L.out ?_)
        go_ret
        exact ⟨ret_bool (by rw [E.out, decide_eq_false (fun h => by omega)]), Below.refl _ _⟩
    · go_enter Tryz.func47, Tryz.ntmps47
      go_wp2_with (at_lookup; refine at_look0 rfl _ _ rfl M.out rfl _ rfl HN.out _ L.out ?_)
      go_ret
      exact ⟨ret_bool (by rw [E.out, decide_eq_false (fun h => by omega)]), Below.refl _ _⟩
theorem has_nil (w : World) (n r : Int) : Calls Tryz.prog 47 #[.pointer none, .int .i64 n, .int .i64 r] w fun e w' => e = .returned (.bool false) ∧ Below w.heap.size w w' := by
  go_enter Tryz.func47, Tryz.ntmps47
  go_wp2
  go_ret
  exact ⟨rfl, Below.refl _ _⟩

def GetPost (w : World) (y : R4) (b : Bool) (e : Ending) (w' : World) : Prop := e = .returned (.tuple #[rec4 y, .bool b]) ∧ Below w.heap.size w w'
/-- A record's place, of nothing. -/
theorem one_rec (w : World) : (w.alloc (.cells (arr4 z4) 71)).heap[w.heap.size]? = some (.cells (arr4 z4) 71 (0, 0)) ∧ Below w.heap.size w (w.alloc (.cells (arr4 z4) 71)) ∧ (w.alloc (.cells (arr4 z4) 71)).heap.size = w.heap.size + 1 := ⟨heap_alloc_new w _, (Below.refl w.heap.size w).alloc (Nat.le_refl _) _, by simp⟩
set_option maxHeartbeats 400000 in
theorem get_no (w : World) (s : Value) (n r : Int) (hh : ∀ W, Below w.heap.size w W → Calls Tryz.prog 47 #[s, .int .i64 n, .int .i64 r] W fun e w' => e = .returned (.bool false) ∧ Below W.heap.size W w') :
    Calls Tryz.prog 19 #[s, .int .i64 n, .int .i64 r] w (GetPost w z4 false) := by
  obtain ⟨h1, hB, hz⟩ := one_rec w
  have H1 := Lib.hid h1
  have HB := Lib.hid hB
  have HH := Lib.hid (hh _ hB)
  have HZ := Lib.hid hz
  clear h1 hB hz hh
  unfold arr4 z4 at *
  go_enter Tryz.func19, Tryz.ntmps19
  go_wp2_with fail
  generalize (w.alloc (.cells #[.int .u8 0, .int .u8 0, .int .u8 0, .int .u8 0] 71)) = W at *
  refine HH.out.mono ?_
  rintro e w1 ⟨rfl, b1⟩
  have hz := HZ.out
  have G : w1.heap[w.heap.size]? = some (.cells (arr4 z4) 71 (0, 0)) := (b1.block _ (by omega)).trans H1.out
  have B1 := Lib.hid (HB.out.trans (b1.mono HB.out.size))
  have d0 : w1.cell? ⟨w.heap.size, 0, none⟩ = some (.int .u8 0) := row_cell G 0
  have d1 : w1.cell? ⟨w.heap.size, 1, none⟩ = some (.int .u8 0) := row_cell G 1
  have d2 : w1.cell? ⟨w.heap.size, 2, none⟩ = some (.int .u8 0) := row_cell G 2
  have d3 : w1.cell? ⟨w.heap.size, 3, none⟩ = some (.int .u8 0) := row_cell G 3
  have k0 := row_frozen G 0
  have k1 := row_frozen G 1
  have k2 := row_frozen G 2
  have k3 := row_frozen G 3
  have R2 := Lib.hid (sto4_row G z4)
  have B2 := Lib.hid (sto4_below (o := 0) (r := z4) B1.out (show w.heap.size ≤ w.heap.size by omega))
  clear b1 HH HB H1 HZ hz G B1
  go_wp2
  (try simp only [Exit.inBlock, Exit.then])
  exact bodyPost_ret (results_rec (p := 6) (r := 7) rfl _ _ w.heap.size z4 (.bool false) rfl rfl R2.out) rfl ⟨rfl, B2.out⟩
set_option maxHeartbeats 400000 in
theorem get_yes {w : World} {s : Nat} {F : Nat → Prop} {m : Value} {C : List Ent} {d : Int} (S : Sto w s F m C d) {n : Int} (hn : Wf n) (k : Nat) {c : Ent} (hc : look Ent.n n C = some c) (hk : k < c.l.length) :
    Calls Tryz.prog 19 #[.pointer (some ⟨s, 0, none⟩), .int .i64 n, .int .i64 (k : Int)] w (GetPost w (rat c.l k) true) := by
  obtain ⟨h1, hB, hz⟩ := one_rec w
  have H1 := Lib.hid h1
  have HB := Lib.hid hB
  have HZ := Lib.hid hz
  have hh := has_any (S.below hB) hn (k : Int)
  rw [gB_some hc, decide_eq_true (⟨by omega, by omega⟩ : 0 ≤ (k : Int) ∧ (k : Int) < c.l.length)] at hh
  have HH := Lib.hid hh
  have SS := Lib.hid S
  have HN := Lib.hid hn
  have L := Lib.hid (lv_some hc)
  obtain ⟨ho, _⟩ := S.find hc
  obtain ⟨g, cap, e1, _, _, _, _, _, hA⟩ := ho.form (by omega)
  obtain ⟨cn, cp, ca, ccap, cl⟩ := c
  obtain ⟨rfl, rfl⟩ : ca = some ⟨g, 0, none⟩ ∧ ccap = cap := by
    unfold Ent.sl at e1
    injection e1 with e1 e2 e3
    exact ⟨e1, e3⟩
  have A4' := at4 hA k hk
  rw [Nat.zero_add] at A4'
  have A4 := Lib.hid A4'
  clear A4'
  have hk' : k < cl.length := hk
  clear h1 hB hz hh ho e1 hA hc S hn hk
  simp only at *
  generalize rat cl k = y at *
  generalize cl.length = q at *
  have y4 : Hid (arr4 y = #[.int .u8 y.1, .int .u8 y.2.1, .int .u8 y.2.2.1, .int .u8 y.2.2.2]) := rfl
  unfold arr4 z4 at H1 HB HZ HH
  go_enter Tryz.func19, Tryz.ntmps19
  go_wp2_with fail
  generalize (w.alloc (.cells #[.int .u8 0, .int .u8 0, .int .u8 0, .int .u8 0] 71)) = W at *
  refine HH.out.mono ?_
  rintro e w1 ⟨rfl, b1⟩
  have hz := HZ.out
  have G : w1.heap[w.heap.size]? = some (.cells (arr4 z4) 71 (0, 0)) := (b1.block _ (by omega)).trans H1.out
  have B1 := Lib.hid (HB.out.trans (b1.mono HB.out.size))
  have S1 := SS.out.below B1.out
  have M1 := Lib.hid S1.mp
  have c0 : w1.cell? ⟨s, 0, none⟩ = some m := row_cell S1.row 0
  have hF := run_fieldF
  have q0 := (B1.out.cell (World.block_lt_of_cell? _ _ A4.out.1)).trans A4.out.1
  have q1 := (B1.out.cell (World.block_lt_of_cell? _ _ A4.out.2.1)).trans A4.out.2.1
  have q2 := (B1.out.cell (World.block_lt_of_cell? _ _ A4.out.2.2.1)).trans A4.out.2.2.1
  have q3 := (B1.out.cell (World.block_lt_of_cell? _ _ A4.out.2.2.2)).trans A4.out.2.2.2
  have d0 : w1.cell? ⟨w.heap.size, 0, none⟩ = some (.int .u8 0) := row_cell G 0
  have d1 : w1.cell? ⟨w.heap.size, 1, none⟩ = some (.int .u8 0) := row_cell G 1
  have d2 : w1.cell? ⟨w.heap.size, 2, none⟩ = some (.int .u8 0) := row_cell G 2
  have d3 : w1.cell? ⟨w.heap.size, 3, none⟩ = some (.int .u8 0) := row_cell G 3
  have k0 := row_frozen G 0
  have k1 := row_frozen G 1
  have k2 := row_frozen G 2
  have k3 := row_frozen G 3
  have R2 := Lib.hid (sto4_row G y)
  have B2 := Lib.hid (sto4_below (o := 0) (r := y) B1.out (show w.heap.size ≤ w.heap.size by omega))
  clear b1 HH HB H1 HZ hz G B1 S1 SS A4
  go_wp2_with (at_lookup; refine at_look0 rfl _ _ rfl M1.out rfl _ rfl HN.out _ L.out ?_)
  (try simp only [Exit.inBlock, Exit.then])
  exact bodyPost_ret (results_rec (p := 6) (r := 7) rfl _ _ w.heap.size y (.bool true) rfl rfl R2.out) rfl ⟨rfl, B2.out⟩
theorem get_any {w : World} {s : Nat} {F : Nat → Prop} {m : Value} {C : List Ent} {d : Int} (S : Sto w s F m C d) {n : Int} (hn : Wf n) (r : Int) :
    Calls Tryz.prog 19 #[.pointer (some ⟨s, 0, none⟩), .int .i64 n, .int .i64 r] w (GetPost w (gV (C.map Ent.abs) n r) (gB (C.map Ent.abs) n r)) := by
  cases hk : look Ent.n n C with
  | none =>
    rw [gV_none hk, gB_none hk]
    refine get_no w _ n r fun W hb => ?_
    have := has_any (S.below hb) hn r
    rwa [gB_none hk] at this
  | some c =>
    by_cases hr : 0 ≤ r ∧ r < c.l.length
    · obtain ⟨k, rfl⟩ : ∃ k : Nat, r = k := ⟨r.toNat, by omega⟩
      rw [gV_some hk, gB_some hk, if_pos hr, decide_eq_true hr, Int.toNat_natCast]
      exact get_yes S hn k hk (by omega)
    · rw [gV_some hk, gB_some hk, if_neg hr, decide_eq_false hr]
      refine get_no w _ n r fun W hb => ?_
      have := has_any (S.below hb) hn r
      rwa [gB_some hk, decide_eq_false hr] at this
theorem get_nil (w : World) (n r : Int) : Calls Tryz.prog 19 #[.pointer none, .int .i64 n, .int .i64 r] w (GetPost w z4 false) := get_no w _ n r fun W _ => has_nil W n r

end Go.Proofs.YtilacdjekdngkaaGreatDoor.Fs

/- ifs: a store of which one file is put in, or one record is written. -/
namespace Go.Proofs.YtilacdjekdngkaaGreatDoor.Fs
open Go.RowKit Go.Maps
open Go.Proofs.YtilacdjekdngkaaGreatDoor.Fl (R4 z4 K4 rec4 rat goodF goodFB okR okL doE newR file arr4 sto4 sto4_own sto4_other sto4_size sto4_below own4 row_cell)
open Go.Proofs.YtilacdjekdngkaaGreatDoor.Rw (Rd Ow At)
set_option maxRecDepth 100000

theorem apart_symm {c e : Ent} (h : apart c e) : apart e c := fun k hk hc => h k hc hk
theorem pw_mem {α : Type} {R : α → α → Prop} (sy : ∀ {x y}, R x y → R y x) : ∀ {l : List α}, l.Pairwise R → ∀ {x y}, x ∈ l → y ∈ l → x ≠ y → R x y
  | [], _, _, _, hx, _, _ => by cases hx
  | a :: r, h, x, y, hx, hy, hne => by
    obtain ⟨h1, h2⟩ := List.pairwise_cons.1 h
    rcases List.mem_cons.1 hx with ex | hx <;> rcases List.mem_cons.1 hy with ey | hy
    · exact (hne (ex.trans ey.symm)).elim
    · rw [ex]; exact h1 _ hy
    · rw [ey]; exact sy (h1 _ hx)
    · exact pw_mem sy h2 hx hy hne
theorem pw_ins {α : Type} {κ : α → Int} {R : α → α → Prop} (sy : ∀ {x y}, R x y → R y x) {c : α} : ∀ {l : List α}, l.Pairwise R → (∀ x ∈ l, R c x) → (ins κ c l).Pairwise R
  | [], _, _ => by simp [ins]
  | y :: r, h, hc => by
    obtain ⟨h1, h2⟩ := List.pairwise_cons.1 h
    unfold ins
    split
    · exact List.pairwise_cons.2 ⟨hc, h⟩
    · refine List.pairwise_cons.2 ⟨fun z hz => ?_, pw_ins sy h2 fun x hx => hc x (List.mem_cons_of_mem _ hx)⟩
      rcases mem_ins.1 hz with rfl | hz
      · exact sy (hc y List.mem_cons_self)
      · exact h1 z hz
theorem pw_put {c : Ent} {C : List Ent} (h : C.Pairwise apart) (hc : ∀ e ∈ C, e.n ≠ c.n → apart c e) : (put Ent.n c C).Pairwise apart := by
  unfold put
  refine pw_ins apart_symm (h.filter _) fun e he => ?_
  obtain ⟨h1, h2⟩ := List.mem_filter.1 he
  exact hc e h1 (by simpa using h2)

section
variable {w w' : World} {s : Nat} {F F' : Nat → Prop} {m m' : Value} {C : List Ent} {d d' : Int} {c : Ent}
/-- A file is put in. -/
theorem Sto.put (h : Sto w s F m C d) (row : w'.heap[s]? = some (.cells #[m', .int .i64 d'] 97 (0, 0))) (hF : ∀ k, F k → F' k) (mp : Mp w' F' m' (put Ent.n c C)) (old : ∀ e ∈ C, e.n ≠ c.n → Ow K4 w' 0 71 e.sl e.l)
    (new : Ow K4 w' 0 71 c.sl c.l) (mine : ∀ k, c.sl.ownBlock = some k → F' k) (far : ∀ e ∈ C, e.n ≠ c.n → Fs.apart c e) (hn : 0 ≤ c.n ∧ c.n ≤ 63) (hg : goodF c.p c.l) (hl : okL c.l) (low : ∀ k, F' k → k < w'.heap.size) : Sto w' s F' m' (Fs.put Ent.n c C) d' := by
  refine ⟨row, hF s h.foot, mp, fun e he => ?_, fun e he k hk => ?_, pw_put h.apart far, ?_, low⟩
  · rcases mem_put.1 he with rfl | ⟨he, hne⟩
    · exact new
    · exact old e he hne
  · rcases mem_put.1 he with rfl | ⟨he, hne⟩
    · exact mine k hk
    · exact hF k (h.mine e he k hk)
  · rw [abs_put]
    exact h.ok.put hn hg hl
/-- The same file with other records, where they lie. -/
def Ent.recs (c : Ent) (l : List R4) : Ent := ⟨c.n, c.p, c.a, c.cap, l⟩
theorem recs_sl (c : Ent) {l : List R4} (h : l.length = c.l.length) : (c.recs l).sl = c.sl := by unfold Ent.recs Ent.sl; rw [h]
theorem dat_recs {i : Nat} (hi : C[i]? = some c) {l : List R4} (h : l.length = c.l.length) : dat (C.set i (c.recs l)) = dat C := by
  unfold dat
  rw [List.map_set]
  have : ent (c.recs l) = ent c := by unfold ent Ent.file; rw [recs_sl c h]; rfl
  rw [this]
  congr 1
  refine List.ext_getElem? fun j => ?_
  rw [List.getElem?_set]
  split
  · rename_i hij
    subst hij
    rw [List.getElem?_map, hi]
    have := (List.getElem?_eq_some_iff.1 hi).1
    simp [this]
  · rfl
/-- A record of a file is written. -/
theorem Sto.write {g n cap : Nat} {k : Nat} {x : R4} (h : Sto w s F m C d) (hc : c ∈ C) (hs : c.sl = .slice (some ⟨g, 0, none⟩) n cap) (hk : k < c.l.length) (h0 : k ≠ 0) (hx : okR x) :
    Sto (sto4 w g (k * 4) x) s F m (Fs.put Ent.n (c.recs (c.l.set k x)) C) d ∧ Only F w (sto4 w g (k * 4) x) := by
  have hg : F g := h.mine c hc g (by rw [hs]; rfl)
  obtain ⟨n1, n2⟩ := h.off hc
  rw [hs] at n1 n2
  have ng : s ≠ g := fun e => n1 (by rw [e]; rfl)
  have hsl : (c.recs (c.l.set k x)).sl = c.sl := recs_sl c (by rw [List.length_set])
  have own := h.own c hc
  rw [hs] at own
  have hn : n = c.l.length := by unfold Ent.sl at hs; injection hs with _ hs _; exact hs.symm
  have hcm : c.abs ∈ C.map Ent.abs := List.mem_map_of_mem hc
  obtain ⟨i, hi⟩ := List.getElem?_of_mem hc
  have srt : Srt Ent.n C := (map_srt (κ := Ent.n) (κ' := key) abs_key).1 h.ok.srt
  have hput : Fs.put Ent.n (c.recs (c.l.set k x)) C = C.set i (c.recs (c.l.set k x)) := put_set srt hi rfl
  have hdat : dat (Fs.put Ent.n (c.recs (c.l.set k x)) C) = dat C := by rw [hput]; exact dat_recs hi (by rw [List.length_set])
  have off : ∀ e ∈ C, e.n ≠ c.n → Fs.apart c e := fun e he hne => pw_mem apart_symm h.apart hc he fun e' => hne (by rw [e'])
  have hGood : goodF c.p (c.l.set k x) := good_set (h.ok.good _ hcm) h0
  have hOk : okL (c.l.set k x) := okL_set (h.ok.ok _ hcm) hx
  have hMp : Mp (sto4 w g (k * 4) x) F m (Fs.put Ent.n (c.recs (c.l.set k x)) C) := by
    have M : Mp (sto4 w g (k * 4) x) F m C := h.mp.kept fun b hb => sto4_other rfl fun e => n2 b hb (by rw [e]; rfl)
    rcases M with ⟨rfl, rfl⟩ | ⟨b, rfl, hF, hm⟩
    · cases hc
    · refine .inr ⟨b, rfl, hF, ?_⟩
      rw [hdat, hput, List.length_set]
      exact hm
  have hRow := sto4_other (g := g) (o := k * 4) (r := x) h.row ng
  have hOld : ∀ e ∈ C, e.n ≠ (c.recs (c.l.set k x)).n → Ow K4 (sto4 w g (k * 4) x) 0 71 e.sl e.l := fun e he hne => by
    have o := h.own e he
    have a := off e he hne g (by rw [hs]; rfl)
    exact Fl.sto4_off o a x
  have hNew : Ow K4 (sto4 w g (k * 4) x) 0 71 (c.recs (c.l.set k x)).sl (c.l.set k x) := by
    rw [hsl, hs]
    exact sto4_own own hn k hk x
  refine ⟨h.put hRow (fun k hk => hk) hMp hOld hNew (fun j hj => h.mine c hc j (by rw [← hsl]; exact hj)) (fun e he hne j hj => off e he hne j (by rw [← hsl]; exact hj)) (h.ok.nm _ hcm) hGood hOk (by rw [sto4_size]; exact h.low), ?_⟩
  have O1 : ∀ W : World, ∀ o v, Only F W (W.setCell ⟨g, o, none⟩ v) := fun W o v => Only.set F W hg v
  unfold sto4
  exact (((O1 _ _ _).trans (O1 _ _ _) fun _ _ g => g).trans (O1 _ _ _) fun _ _ g => g).trans (O1 _ _ _) fun _ _ g => g
end

end Go.Proofs.YtilacdjekdngkaaGreatDoor.Fs

/- ifs: Set, by its contract. -/
namespace Go.Proofs.YtilacdjekdngkaaGreatDoor.Fs
open Go.RowKit Go.Maps
open Go.Proofs.YtilacdjekdngkaaGreatDoor.Fl (R4 z4 K4 rec4 rat goodF goodFB okR okL doE newR file arr4 sto4 sto4_own sto4_other sto4_size sto4_below own4 row_cell row_frozen ret_bool)
open Go.Proofs.YtilacdjekdngkaaGreatDoor.Rw (Rd Ow At)
set_option maxRecDepth 100000
attribute [local irreducible] Sd.wpSd wpQuiet Sf.wpSf

def SetPost (w : World) (s : Nat) (F : Nat → Prop) (d : Int) (b : Bool) (A' : Abs) (e : Ending) (w' : World) : Prop := e = .returned (.bool b) ∧ St w' s (Fx F w w') A' d ∧ Only F w w'
theorem sB_some {C : List Ent} {n r : Int} {c : Ent} (h : look Ent.n n C = some c) (h0 : 0 ≤ r) (h1 : r < c.l.length) (h2 : r ≠ 0) : sB (C.map Ent.abs) n r = true := by
  unfold sB
  rw [gB_some h, decide_eq_true ⟨h0, h1⟩, decide_eq_true h2]
  rfl
theorem sA_some {C : List Ent} {n r : Int} {c : Ent} (h : look Ent.n n C = some c) (h0 : 0 ≤ r) (h1 : r < c.l.length) (h2 : r ≠ 0) (x : R4) : sA (C.map Ent.abs) n r x = (put Ent.n (c.recs (c.l.set r.toNat x)) C).map Ent.abs := by
  have hb := sB_some h h0 h1 h2
  have he : look key n (C.map Ent.abs) = some c.abs := by rw [abs_look, h]; rfl
  unfold sA
  rw [he]
  simp only [hb, if_true]
  rw [abs_put]
  obtain ⟨_, rfl⟩ := look_some h
  rfl
theorem sA_no {A : Abs} {n r : Int} (h : sB A n r = false) (x : R4) : sA A n r x = A := by
  unfold sA
  split
  · rfl
  · rw [h]; rfl
theorem box_rec (w : World) (x : R4) : (w.alloc (.cells (arr4 x) 71)).heap[w.heap.size]? = some (.cells (arr4 x) 71 (0, 0)) ∧ Below w.heap.size w (w.alloc (.cells (arr4 x) 71)) ∧ (w.alloc (.cells (arr4 x) 71)).heap.size = w.heap.size + 1 := ⟨heap_alloc_new w _, (Below.refl w.heap.size w).alloc (Nat.le_refl _) _, by simp⟩
set_option maxHeartbeats 400000 in
theorem set_zero (w : World) (s : Value) (n : Int) (x : R4) : Calls Tryz.prog 64 #[s, .int .i64 n, .int .i64 0, rec4 x] w fun e w' => e = .returned (.bool false) ∧ Below w.heap.size w w' := by
  unfold rec4
  go_enter Tryz.func64, Tryz.ntmps64
  go_wp2
  go_ret
  exact ⟨rfl, (Below.refl w.heap.size w).alloc (Nat.le_refl _) _⟩
set_option maxHeartbeats 400000 in
theorem set_none (w : World) (s : Value) (n r : Int) (x : R4) (hr : r ≠ 0) (hh : ∀ W, Below w.heap.size w W → Calls Tryz.prog 47 #[s, .int .i64 n, .int .i64 r] W fun e w' => e = .returned (.bool false) ∧ Below W.heap.size W w') :
    Calls Tryz.prog 64 #[s, .int .i64 n, .int .i64 r, rec4 x] w fun e w' => e = .returned (.bool false) ∧ Below w.heap.size w w' := by
  obtain ⟨h1, hB, hz⟩ := box_rec w x
  have HB := Lib.hid hB
  have HH := Lib.hid (hh _ hB)
  clear h1 hB hz hh
  have hr0 : (r == 0) = false := by simpa using hr
  unfold rec4
  unfold arr4 at *
  go_enter Tryz.func64, Tryz.ntmps64
  go_wp2_with fail
  refine HH.out.mono ?_
  rintro e w1 ⟨rfl, b1⟩
  have B1 := Lib.hid (HB.out.trans (b1.mono HB.out.size))
  clear b1 HH HB
  go_wp2
  go_ret
  exact ⟨rfl, B1.out⟩
/-- What the region that writes reads. -/
structure SetC (s : Nat) (F : Nat → Prop) (m : Value) (C : List Ent) (d : Int) (g : Nat) (x : R4) (W : World) : Prop where
  row : W.heap[s]? = some (.cells #[m, .int .i64 d] 97 (0, 0))
  mp : Mp W F m C
  box : W.heap[g]? = some (.cells (arr4 x) 71 (0, 0))
set_option maxHeartbeats 1000000 in
theorem set_yes {w : World} {s : Nat} {F : Nat → Prop} {m : Value} {C : List Ent} {d : Int} (S : Sto w s F m C d) {n : Int} (hn : Wf n) (k : Nat) (x : R4) (hx : okR x) {c : Ent} (hc : look Ent.n n C = some c) (hk : k < c.l.length) (hk0 : k ≠ 0) :
    Calls Tryz.prog 64 #[.pointer (some ⟨s, 0, none⟩), .int .i64 n, .int .i64 (k : Int), rec4 x] w (SetPost w s F d true ((put Ent.n (c.recs (c.l.set k x)) C).map Ent.abs)) := by
  obtain ⟨h1, hB, hz⟩ := box_rec w x
  have H1 := Lib.hid h1
  have HB := Lib.hid hB
  have HZ := Lib.hid hz
  have hh := has_any (S.below hB) hn (k : Int)
  rw [gB_some hc, decide_eq_true (⟨by omega, by omega⟩ : 0 ≤ (k : Int) ∧ (k : Int) < c.l.length)] at hh
  have HH := Lib.hid hh
  have SS := Lib.hid S
  have HN := Lib.hid hn
  have L := Lib.hid (lv_some hc)
  obtain ⟨ho, _, _, _, _, hm⟩ := S.find hc
  obtain ⟨g, cap, e1, _, _, _, _, _, _⟩ := ho.form (by omega)
  have ea : c.a = some ⟨g, 0, none⟩ := by unfold Ent.sl at e1; injection e1
  rw [ea] at L
  have FIN : Hid (∀ W, Below w.heap.size w W → SetPost w s F d true ((put Ent.n (c.recs (c.l.set k x)) C).map Ent.abs) (.returned (.bool true)) (sto4 W g (k * 4) x)) := fun W hb => by
    obtain ⟨S1, O1⟩ := (S.below hb).write hm e1 hk hk0 hx
    have O2 := (Only.of_below (G := F) hb).trans O1 fun _ _ g => g
    exact ⟨rfl, ⟨_, _, S1.wide (fun j hj => .inl hj) (Fx.low S.low O2.size), rfl⟩, O2⟩
  have OW := Lib.hid (And.intro ho (And.intro e1 hk))
  have CB : Hid (∀ W, SetC s F m C d w.heap.size x W → ∀ g', g = g' → ((sto4 W g' (k * 4) x).heap[s]? = some (.cells #[m, .int .i64 d] 97 (0, 0)) ∧ Mp (sto4 W g' (k * 4) x) F m C ∧ (sto4 W g' (k * 4) x).heap[w.heap.size]? = some (.cells (arr4 x) 71 (0, 0)))) := fun W h g' eg => by
    subst eg
    obtain ⟨n1, n2⟩ := S.off hm
    rw [e1] at n1 n2
    have hgl := S.low g (S.mine c hm g (by rw [e1]; rfl))
    exact ⟨sto4_other h.row fun e => n1 (by rw [e]; rfl), h.mp.kept fun b hb => sto4_other rfl fun e => n2 b hb (by rw [e]; rfl), sto4_other h.box (by omega)⟩
  have hq : k < c.l.length := hk
  clear h1 hB hz hh ho e1 hc S hn hk hm ea
  generalize put Ent.n (c.recs (c.l.set k x)) C = C' at *
  have hr0 : ((k : Int) == 0) = false := by simpa using hk0
  have OW2 : Hid (∀ W, Below w.heap.size w W → (W.cell? ⟨g, k * 4, none⟩ = some (.int .u8 (rat c.l k).1) ∧ W.cell? ⟨g, k * 4 + 1, none⟩ = some (.int .u8 (rat c.l k).2.1) ∧ W.cell? ⟨g, k * 4 + 2, none⟩ = some (.int .u8 (rat c.l k).2.2.1) ∧ W.cell? ⟨g, k * 4 + 3, none⟩ = some (.int .u8 (rat c.l k).2.2.2)) ∧ (∀ j, W.frozen? ⟨g, j, none⟩ = false)) := fun W hb => by
    have o := OW.out.1.keep hb
    rw [OW.out.2.1] at o
    have := own4 o k OW.out.2.2
    exact ⟨this.1, this.2.1⟩
  clear OW
  generalize rat c.l k = y0 at *
  generalize c.l.length = q at *
  generalize c.p = p at *
  generalize c.cap = ccap at *
  unfold rec4
  have X4 : Hid (arr4 x = #[.int .u8 x.1, .int .u8 x.2.1, .int .u8 x.2.2.1, .int .u8 x.2.2.2]) := rfl
  unfold arr4 at H1 HB HZ HH
  go_enter Tryz.func64, Tryz.ntmps64
  go_wp2_with fail
  generalize (w.alloc (.cells #[.int .u8 x.1, .int .u8 x.2.1, .int .u8 x.2.2.1, .int .u8 x.2.2.2] 71)) = W at *
  refine HH.out.mono ?_
  rintro e w1 ⟨rfl, b1⟩
  have hz := HZ.out
  have G : w1.heap[w.heap.size]? = some (.cells (arr4 x) 71 (0, 0)) := (b1.block _ (by omega)).trans H1.out
  have B1 := Lib.hid (HB.out.trans (b1.mono HB.out.size))
  have S1 := SS.out.below B1.out
  have C0 : SetC s F m C d w.heap.size x w1.drew := ⟨S1.row, S1.mp, G⟩
  clear b1 HH HB H1 HZ hz G S1 SS
  go_wp2_with fail
  have hF := run_fieldF
  have c0 := Sc.cell_in (C := SetC s F m C d w.heap.size x) (a := ⟨s, 0, none⟩) (fun W' h => row_cell h.row 0)
  have x0 := Sc.cell_in (C := SetC s F m C d w.heap.size x) (a := ⟨w.heap.size, 0, none⟩) (v := .int .u8 x.1) (fun W' h => row_cell h.box 0)
  have x1 := Sc.cell_in (C := SetC s F m C d w.heap.size x) (a := ⟨w.heap.size, 1, none⟩) (v := .int .u8 x.2.1) (fun W' h => row_cell h.box 1)
  have x2 := Sc.cell_in (C := SetC s F m C d w.heap.size x) (a := ⟨w.heap.size, 2, none⟩) (v := .int .u8 x.2.2.1) (fun W' h => row_cell h.box 2)
  have x3 := Sc.cell_in (C := SetC s F m C d w.heap.size x) (a := ⟨w.heap.size, 3, none⟩) (v := .int .u8 x.2.2.2) (fun W' h => row_cell h.box 3)
  have hlk : ∀ P : Sc.In (SetC s F m C d w.heap.size x), (Instr.lookup 95 m (.int .i64 n) false).run Tryz.prog P.world = .ok (.agg #[.int .i64 p, .slice (some ⟨g, 0, none⟩) q ccap]) P.world := fun P => by
    have := run_look P.ok.mp HN.out false
    rw [L.out] at this
    exact this
  have ne : Nonempty (Sc.In (SetC s F m C d w.heap.size x)) := ⟨⟨_, C0⟩⟩
  refine Sc.start (SetC s F m C d w.heap.size x) [(false, 0), (false, 1), (false, 2), (false, 3), (false, 4), (false, 5), (false, 6), (false, 7), (false, 8), (false, 9), (true, 10)] (by kernel_rfl) (by kernel_rfl) (by kernel_rfl) C0 ?_
  dsimp only [Sd.picks, List.getElem?_cons_succ, List.getElem?_cons_zero]
  repeat (refine Sd.lit ?_; quiet_step (fail); refine wpQuiet_nil ?_)
  have BW : Below w.heap.size w w1.drew := B1.out.trans ((Below.refl _ _).drew)
  obtain ⟨⟨d0, d1, d2, d3⟩, hfr⟩ := OW2.out w1.drew BW
  have f0 := hfr (k * 4)
  have f1 := hfr (k * 4 + 1)
  have f2 := hfr (k * 4 + 2)
  have f3 := hfr (k * 4 + 3)
  have L1 : SetC s F m C d w.heap.size x (sto4 w1.drew g (k * 4) x) := by
    obtain ⟨a1, a2, a3⟩ := CB.out _ C0 _ rfl
    exact ⟨a1, a2, a3⟩
  have RES := Lib.hid (FIN.out w1.drew BW)
  clear hfr OW2 CB FIN C0 B1 BW
  generalize w1.drew = W1 at *
  refine Sd.call (by rfl) (fun K hK => ?_)
  go_simp
  refine hK _ _ (Sc.Cl.of L1) ?_
  clear hK K d0 d1 d2 d3 f0 f1 f2 f3 c0 x0 x1 x2 x3 hlk
  show Sd.wpSd _ _ _ _ _ _ (sto4 W1 g (k * 4) x)
  generalize sto4 W1 g (k * 4) x = W2 at *
  refine Sd.done ?_
  go_wp2
  go_ret
  exact RES.out
theorem set_any {w : World} {s : Nat} {F : Nat → Prop} {A : Abs} {d : Int} (S : St w s F A d) {n : Int} (hn : Wf n) (r : Int) (x : R4) (hx : okR x) :
    Calls Tryz.prog 64 #[.pointer (some ⟨s, 0, none⟩), .int .i64 n, .int .i64 r, rec4 x] w (SetPost w s F d (sB A n r) (sA A n r x)) := by
  obtain ⟨m, C, h, rfl⟩ := S
  have no : ∀ e w', sB (C.map Ent.abs) n r = false → (e = .returned (.bool false) ∧ Below w.heap.size w w') → SetPost w s F d (sB (C.map Ent.abs) n r) (sA (C.map Ent.abs) n r x) e w' := fun e w' hb ⟨he, b⟩ => by
    unfold SetPost
    rw [hb, sA_no hb x]
    exact ⟨he, St.fx ⟨m, C, h, rfl⟩ b, Only.of_below b⟩
  by_cases hr : r = 0
  · subst hr
    exact (set_zero w _ n x).mono fun e w' => no e w' (by unfold sB; simp)
  · have none : gB (C.map Ent.abs) n r = false → Calls Tryz.prog 64 #[.pointer (some ⟨s, 0, none⟩), .int .i64 n, .int .i64 r, rec4 x] w (SetPost w s F d (sB (C.map Ent.abs) n r) (sA (C.map Ent.abs) n r x)) := fun hg =>
      (set_none w _ n r x hr fun W hb => by
        have := has_any (h.below hb) hn r
        rwa [hg] at this).mono fun e w' => no e w' (by unfold sB; rw [hg]; rfl)
    cases hk : look Ent.n n C with
    | none => exact none (gB_none hk)
    | some c =>
      by_cases h2 : 0 ≤ r ∧ r < c.l.length
      · rw [sB_some hk h2.1 h2.2 hr, sA_some hk h2.1 h2.2 hr]
        obtain ⟨k, rfl⟩ : ∃ k : Nat, r = k := ⟨r.toNat, by omega⟩
        rw [Int.toNat_natCast]
        exact set_yes h hn k x hx hk (by omega) (by omega)
      · exact none (by rw [gB_some hk, decide_eq_false h2])

end Go.Proofs.YtilacdjekdngkaaGreatDoor.Fs

/- ifs: Add, by its contract. -/
namespace Go.Proofs.YtilacdjekdngkaaGreatDoor.Fs
open Go.RowKit Go.Maps
open Go.Proofs.YtilacdjekdngkaaGreatDoor.Fl (R4 z4 K4 rec4 rat goodF goodFB okR okL doE newR file arr4 sto4 sto2 sto2_row sto2_other sto2_below sto2_size row_cell row_frozen good_any)
open Go.Proofs.YtilacdjekdngkaaGreatDoor.Rw (Rd Ow At)
set_option maxRecDepth 100000
attribute [local irreducible] Sd.wpSd wpQuiet Sf.wpSf

section
variable {w W W' : World} {s b : Nat} {F : Nat → Prop} {C : List Ent} {d : Int} {c : Ent}
/-- A file that is new in memory is put in. -/
theorem Sto.place (h : Sto w s F (.map (some b)) C d) (hb : Below w.heap.size w W) (hg : W.grownBy W' (some b)) (mp : Mp W' F (.map (some b)) (Fs.put Ent.n c C)) (ow : Ow K4 W w.heap.size 71 c.sl c.l) (hn : 0 ≤ c.n ∧ c.n ≤ 63) (hgd : goodF c.p c.l) (hl : okL c.l) :
    St W' s (Fx F w W') ((Fs.put Ent.n c C).map Ent.abs) d ∧ Only F w W' := by
  have hne := h.map_ne
  have hFb := h.mp.isMap.1
  have hbl := h.low b hFb
  have hsl := h.low s h.foot
  have O : Only F w W' := (Only.of_below hb).trans (Only.grown (G := fun k => k = b) rfl hg) fun k _ e => e ▸ hFb
  have off : ∀ k, c.sl.ownBlock = some k → w.heap.size ≤ k ∧ k < W.heap.size := ow_new ow
  refine ⟨⟨_, _, h.put (w' := W') (d' := d) (F' := Fx F w W') ?_ (fun k hk => .inl hk) (mp.wide fun k hk => .inl hk) (fun e he hne => ?_) ?_ (fun k hk => .inr ⟨(off k hk).1, Nat.lt_of_lt_of_le (off k hk).2 hg.size⟩) (fun e he hne k hk hk' => ?_) hn hgd hl (Fx.low h.low O.size), rfl⟩, O⟩
  · rw [hg.block s (Nat.lt_of_lt_of_le hsl hb.size) (by intro e; injection e with e; exact hne e.symm), hb.block s hsl]
    exact h.row
  · exact ow_only (G := fun k => k = b) ((h.own e he).keep hb) (fun k hk e' => (h.off he).2 b rfl (by rw [hk, e'])) (Only.grown rfl hg)
  · exact ow_only (G := fun k => k = b) (ow.low (Nat.zero_le _)) (fun k hk e' => by have := (off k hk).1; omega) (Only.grown rfl hg)
  · have := (off k hk).1
    have := h.low k (h.mine e he k hk')
    omega
/-- A map is made for a store that has none. -/
theorem Sto.make (h : Sto w s F (.map none) C d) (hb : Below w.heap.size w W) : Sto ((W.alloc (.map #[] 0)).setCell ⟨s, 0, none⟩ (.map (some W.heap.size))) s (Fx F w ((W.alloc (.map #[] 0)).setCell ⟨s, 0, none⟩ (.map (some W.heap.size)))) (.map (some W.heap.size)) C d ∧ Only F w ((W.alloc (.map #[] 0)).setCell ⟨s, 0, none⟩ (.map (some W.heap.size))) := by
  have hC : C = [] := by
    rcases h.mp with ⟨_, e⟩ | ⟨b, e, _⟩
    · exact e
    · cases e
  subst hC
  have hsl := h.low s h.foot
  have B2 : Below w.heap.size w (W.alloc (.map #[] 0)) := hb.alloc hb.size _
  have O : Only F w ((W.alloc (.map #[] 0)).setCell ⟨s, 0, none⟩ (.map (some W.heap.size))) := (Only.of_below B2).trans (Only.set F _ (a := ⟨s, 0, none⟩) h.foot _) fun _ _ g => g
  refine ⟨⟨?_, .inl h.foot, .inr ⟨W.heap.size, rfl, .inr ⟨hb.size, by simp [World.setCell]⟩, ?_⟩, nofun, nofun, List.Pairwise.nil, h.ok, Fx.low h.low O.size⟩, O⟩
  · have := Rw.heap_setCell_same (w := W.alloc (.map #[] 0)) (g := s) (j := 0) ((B2.block s hsl).trans h.row) (.map (some W.heap.size))
    rw [this]
    simp
  · have := World.ownsMap_made (H := Value) W Tryz.prog 3 Rh
    exact this.setCell (a := ⟨s, 0, none⟩) (fun e => by have := hb.size; simp only at e; omega) _
theorem Fx.trans {w1 w2 : World} (h1 : Only F w w1) (h2 : w1.heap.size ≤ w2.heap.size) : ∀ k, Fx (Fx F w w1) w1 w2 k → Fx F w w2 k := by
  have := h1.size
  rintro k ((g | ⟨a, b⟩) | ⟨a, b⟩)
  · exact .inl g
  · exact .inr ⟨a, by omega⟩
  · exact .inr ⟨by omega, b⟩
theorem Only.trans' {w1 w2 : World} (h1 : Only F w w1) (h2 : Only (Fx F w w1) w1 w2) : Only F w w2 := h1.trans h2 fun k hk g => by
  rcases g with g | ⟨a, _⟩
  · exact g
  · omega
end

def AddPost (w : World) (s : Nat) (F : Nat → Prop) (d : Int) (z : Int) (A' : Abs) (e : Ending) (w' : World) : Prop := e = .returned (.int .i64 z) ∧ St w' s (Fx F w w') A' d ∧ Only F w w'
theorem box_file (w : World) (p : Int) (v : Value) : (w.alloc (.cells #[.int .i64 p, v] 67)).heap[w.heap.size]? = some (.cells #[.int .i64 p, v] 67 (0, 0)) ∧ Below w.heap.size w (w.alloc (.cells #[.int .i64 p, v] 67)) ∧ (w.alloc (.cells #[.int .i64 p, v] 67)).heap.size = w.heap.size + 1 := ⟨heap_alloc_new w _, (Below.refl w.heap.size w).alloc (Nat.le_refl _) _, by simp⟩
theorem add_nil (w : World) (n p : Int) (a : Option Addr) (q cap : Nat) : Calls Tryz.prog 23 #[.pointer none, .int .i64 n, .agg #[.int .i64 p, .slice a q cap]] w fun e w' => e = .returned (.int .i64 1) ∧ Below w.heap.size w w' := by
  go_enter Tryz.func23, Tryz.ntmps23
  go_wp2
  go_ret
  exact ⟨rfl, (Below.refl w.heap.size w).alloc (Nat.le_refl _) _⟩
theorem add_1 (w : World) (s : Nat) (n p : Int) (a : Option Addr) (q cap : Nat) (hn : ¬ (0 ≤ n ∧ n ≤ 63)) : Calls Tryz.prog 23 #[.pointer (some ⟨s, 0, none⟩), .int .i64 n, .agg #[.int .i64 p, .slice a q cap]] w fun e w' => e = .returned (.int .i64 1) ∧ Below w.heap.size w w' := by
  by_cases h : n < 0
  · go_enter Tryz.func23, Tryz.ntmps23
    go_wp2
    go_ret
    exact ⟨rfl, (Below.refl w.heap.size w).alloc (Nat.le_refl _) _⟩
  · have h2 : 64 ≤ n := by omega
    go_enter Tryz.func23, Tryz.ntmps23
    go_wp2
    go_ret
    exact ⟨rfl, (Below.refl w.heap.size w).alloc (Nat.le_refl _) _⟩
theorem add_2 (w : World) (s : Nat) (n p : Int) (a : Option Addr) (q cap : Nat) (l : List R4) (R : Rd K4 w (.slice a q cap) l) (hn : 0 ≤ n ∧ n ≤ 63) (hg : ¬ goodF p l) : Calls Tryz.prog 23 #[.pointer (some ⟨s, 0, none⟩), .int .i64 n, .agg #[.int .i64 p, .slice a q cap]] w fun e w' => e = .returned (.int .i64 2) ∧ Below w.heap.size w w' := by
  obtain ⟨h1, hB, hz⟩ := box_file w p (.slice a q cap)
  have HB := Lib.hid hB
  have GA := good_any _ p (.slice a q cap) l (R.below hB)
  rw [show goodFB p l = false from decide_eq_false hg] at GA
  have HG := Lib.hid GA
  have n1 : 0 ≤ n := hn.1
  have n2 : n < 64 := by omega
  clear h1 hB hz R GA hg hn
  unfold file at HG
  go_enter Tryz.func23, Tryz.ntmps23
  go_wp2_with fail
  refine HG.out.mono ?_
  rintro e w1 ⟨rfl, b1⟩
  have B1 := Lib.hid (HB.out.trans (b1.mono HB.out.size))
  clear b1 HG HB
  go_wp2
  go_ret
  exact ⟨rfl, B1.out⟩
set_option maxHeartbeats 1000000 in
theorem add_10 {w : World} {s : Nat} {F : Nat → Prop} {m : Value} {C : List Ent} {d : Int} (S : Sto w s F m C d) (n p : Int) (a : Option Addr) (q cap : Nat) (l : List R4) (R : Rd K4 w (.slice a q cap) l) (hn : 0 ≤ n ∧ n ≤ 63) (hg : goodF p l) {c : Ent} (hc : look Ent.n n C = some c) :
    Calls Tryz.prog 23 #[.pointer (some ⟨s, 0, none⟩), .int .i64 n, .agg #[.int .i64 p, .slice a q cap]] w fun e w' => e = .returned (.int .i64 10) ∧ Below w.heap.size w w' := by
  obtain ⟨h1, hB, hz⟩ := box_file w p (.slice a q cap)
  have HB := Lib.hid hB
  have GA := good_any _ p (.slice a q cap) l (R.below hB)
  rw [show goodFB p l = true from decide_eq_true hg] at GA
  have HG := Lib.hid GA
  have SS := Lib.hid S
  have n1 : 0 ≤ n := hn.1
  have n2 : n < 64 := by omega
  have HN : Hid (Wf n) := WalkArith.wf_i64 (by omega)
  have L := Lib.hid (lv_some hc)
  have LB := Lib.hid (lb_some hc)
  clear h1 hB hz R GA hg hn S hc
  unfold file at HG
  go_enter Tryz.func23, Tryz.ntmps23
  go_wp2_with fail
  refine HG.out.mono ?_
  rintro e w1 ⟨rfl, b1⟩
  have B1 := Lib.hid (HB.out.trans (b1.mono HB.out.size))
  have S1 := SS.out.below B1.out
  have c0 : w1.cell? ⟨s, 0, none⟩ = some m := row_cell S1.row 0
  have M := Lib.hid S1.mp
  clear b1 HG HB S1 SS
  go_wp2_with (at_lookup; refine at_look1 rfl _ _ rfl M.out rfl _ rfl HN.out _ L.out _ LB.out ?_)
  go_ret
  exact ⟨rfl, B1.out.alloc B1.out.size _⟩

end Go.Proofs.YtilacdjekdngkaaGreatDoor.Fs
