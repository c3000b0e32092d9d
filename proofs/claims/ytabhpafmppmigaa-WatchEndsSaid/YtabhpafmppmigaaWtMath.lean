/- Layer 19's mathematics: two masters, what each is, and how long it has been silent. -/
import Derived.Test.YtabhpafmppmigaaChecked
namespace Go.Proofs.Ytabhpafmppmigaa.Wt

/-- What both are, and for how many rounds each has been silent (of a shadow, and of one that listens). -/
structure A where
  r0 : Int
  q0 : Int
  r1 : Int
  q1 : Int
def new : A := ⟨1, 0, 2, 0⟩
def t1 (a : A) : A := if a.r0 ≠ 1 ∧ a.r1 ≠ 1 ∧ ((a.r0 = 2 ∧ 4 ≤ a.q0) ∨ (a.r0 = 3 ∧ 8 ≤ a.q0)) then { a with r0 := 1 } else a
def t2 (a : A) : A := if a.r0 ≠ 1 ∧ a.r1 ≠ 1 ∧ ((a.r1 = 2 ∧ 4 ≤ a.q1) ∨ (a.r1 = 3 ∧ 9 ≤ a.q1)) then { a with r1 := 1 } else a
/-- Who takes over has. -/
def tk (a : A) : A := t2 (t1 a)
def hdN (r : Int) : Int := if r = 3 then 2 else r
def op (a : A) : Int := if a.r0 = 1 then 0 else if a.r1 = 1 then 1 else -1
def hd (a : A) : A := if a.r0 = 1 then ⟨1, 0, hdN a.r1, 0⟩ else if a.r1 = 1 then ⟨hdN a.r0, 0, 1, 0⟩ else ⟨a.r0, a.q0 + 1, a.r1, a.q1 + 1⟩
/-- Who opens the round; and what both are then. -/
def opn (a : A) : Int := op (tk a)
def rnd (a : A) : A := hd (tk a)
def rl (a : A) (n : Int) : Int := if n = 0 then a.r0 else if n = 1 then a.r1 else 0
def crE (a : A) (n : Int) : Int := if n = 0 then (if a.r0 = 4 then 10 else 0) else if n = 1 then (if a.r1 = 4 then 10 else 0) else 1
def crA (a : A) (n : Int) : A := if n = 0 then { a with r0 := 4 } else if n = 1 then { a with r1 := 4 } else a
def rsE (a : A) (n : Int) : Int := if n = 0 then (if a.r0 = 4 then 0 else 10) else if n = 1 then (if a.r1 = 4 then 0 else 10) else 1
def rsA (a : A) (n : Int) : A := if n = 0 then (if a.r0 = 4 then { a with r0 := 3, q0 := 0 } else a) else if n = 1 then (if a.r1 = 4 then { a with r1 := 3, q1 := 0 } else a) else a
structure Ok (a : A) : Prop where
  b0 : 1 ≤ a.r0 ∧ a.r0 ≤ 4
  b1 : 1 ≤ a.r1 ∧ a.r1 ≤ 4
  one : ¬ (a.r0 = 1 ∧ a.r1 = 1)
  p0 : 0 ≤ a.q0
  p1 : 0 ≤ a.q1
theorem ok_new : Ok new := ⟨by decide, by decide, by decide, by decide, by decide⟩
section
variable {a : A} (h : Ok a)
include h
theorem Ok.t1 : Ok (t1 a) := by
  obtain ⟨h1, h2, h3, h4, h5⟩ := h
  unfold Wt.t1
  split
  · rename_i g
    exact ⟨by simp, h2, fun q => g.2.1 q.2, h4, h5⟩
  · exact ⟨h1, h2, h3, h4, h5⟩
theorem Ok.t2 : Ok (t2 a) := by
  obtain ⟨h1, h2, h3, h4, h5⟩ := h
  unfold Wt.t2
  split
  · rename_i g
    exact ⟨h1, by simp, fun q => g.1 q.1, h4, h5⟩
  · exact ⟨h1, h2, h3, h4, h5⟩
theorem Ok.tk : Ok (tk a) := h.t1.t2
theorem Ok.hd : Ok (hd a) := by
  obtain ⟨h1, h2, h3, h4, h5⟩ := h
  unfold Wt.hd hdN
  split
  · refine ⟨by simp, ?_, ?_, by simp, by simp⟩ <;> simp only <;> split <;> omega
  · split
    · refine ⟨?_, by simp, ?_, by simp, by simp⟩ <;> simp only <;> split <;> omega
    · exact ⟨h1, h2, h3, by simp only; omega, by simp only; omega⟩
theorem Ok.rnd : Ok (rnd a) := h.tk.hd
theorem Ok.cr (n : Int) : Ok (crA a n) := by
  obtain ⟨h1, h2, h3, h4, h5⟩ := h
  unfold crA
  split
  · exact ⟨by simp, h2, by simp, h4, h5⟩
  · split
    · exact ⟨h1, by simp, by simp, h4, h5⟩
    · exact ⟨h1, h2, h3, h4, h5⟩
theorem Ok.rs (n : Int) : Ok (rsA a n) := by
  obtain ⟨h1, h2, h3, h4, h5⟩ := h
  unfold rsA
  split
  · split
    · exact ⟨by simp, h2, by simp, by simp, h5⟩
    · exact ⟨h1, h2, h3, h4, h5⟩
  · split
    · split
      · exact ⟨h1, by simp, by simp, h4, by simp⟩
      · exact ⟨h1, h2, h3, h4, h5⟩
    · exact ⟨h1, h2, h3, h4, h5⟩
end
theorem opn_cases (a : A) : opn a = -1 ∨ opn a = 0 ∨ opn a = 1 := by
  unfold opn op
  split
  · exact .inr (.inl rfl)
  · split
    · exact .inr (.inr rfl)
    · exact .inl rfl
/-- Who opens a round is active behind it. -/
theorem opn_active (a : A) (h : 0 ≤ opn a) : rl (rnd a) (opn a) = 1 := by
  unfold opn op at h ⊢
  unfold rnd hd rl
  generalize tk a = t at *
  by_cases h0 : t.r0 = 1
  · simp [h0]
  · by_cases h1 : t.r1 = 1
    · simp [h0, h1]
    · simp [h0, h1] at h

def d0 (a : A) : Prop := (a.r0 = 2 ∧ 4 ≤ a.q0) ∨ (a.r0 = 3 ∧ 8 ≤ a.q0)
def d1 (a : A) : Prop := (a.r1 = 2 ∧ 4 ≤ a.q1) ∨ (a.r1 = 3 ∧ 9 ≤ a.q1)
theorem opn_parts (a : A) : (opn a = 0 ∧ (a.r0 = 1 ∨ (a.r0 ≠ 1 ∧ a.r1 ≠ 1 ∧ d0 a)) ∧ (rnd a).r0 = 1) ∨ (opn a = 1 ∧ a.r0 ≠ 1 ∧ (a.r1 = 1 ∨ (a.r1 ≠ 1 ∧ ¬ d0 a ∧ d1 a)) ∧ (rnd a).r1 = 1) ∨ (opn a = -1 ∧ a.r0 ≠ 1 ∧ a.r1 ≠ 1 ∧ ¬ d0 a ∧ ¬ d1 a ∧ rnd a = ⟨a.r0, a.q0 + 1, a.r1, a.q1 + 1⟩) := by
  obtain ⟨r0, q0, r1, q1⟩ := a
  unfold opn rnd tk t1 t2 op hd d0 d1
  by_cases e0 : r0 = 1
  · exact .inl (by simp [e0])
  · by_cases e1 : r1 = 1
    · exact .inr (.inl (by simp [e0, e1]))
    · by_cases g0 : (r0 = 2 ∧ 4 ≤ q0) ∨ (r0 = 3 ∧ 8 ≤ q0)
      · exact .inl (by simp [e0, e1, g0])
      · by_cases g1 : (r1 = 2 ∧ 4 ≤ q1) ∨ (r1 = 3 ∧ 9 ≤ q1)
        · exact .inr (.inl (by simp [e0, e1, g0, g1]))
        · exact .inr (.inr (by simp [e0, e1, g0, g1]))
theorem opn_act {a : A} (h : a.r0 = 1 ∨ a.r1 = 1) : 0 ≤ opn a := by
  rcases opn_parts a with ⟨e, _⟩ | ⟨e, _⟩ | ⟨e, g0, g1, _⟩
  · omega
  · omega
  · rcases h with h | h
    · exact absurd h g0
    · exact absurd h g1

/-! ### who has restarted -/
/-- What is known of who has heard no round since it restarted: it is down, or listens, for as long as the count says. -/
def He (r q : Int) (heard : Bool) (s : Int) : Prop := heard = false → r = 4 ∨ (r = 3 ∧ q = s)
structure Hd (a : A) (h0 h1 : Bool) (s0 s1 : Int) : Prop where
  k0 : He a.r0 a.q0 h0 s0
  k1 : He a.r1 a.q1 h1 s1
  n0 : 0 ≤ s0
  n1 : 0 ≤ s1
theorem hd_new : Hd new true true 0 0 := ⟨nofun, nofun, Int.le_refl _, Int.le_refl _⟩
section
variable {a : A} {h0 h1 : Bool} {s0 s1 : Int}
theorem Hd.cr (h : Hd a h0 h1 s0 s1) (n : Int) : Hd (crA a n) h0 h1 s0 s1 := by
  unfold crA
  split
  · exact ⟨fun _ => .inl rfl, h.k1, h.n0, h.n1⟩
  · split
    · exact ⟨h.k0, fun _ => .inl rfl, h.n0, h.n1⟩
    · exact h
theorem Hd.rs0 (h : Hd a h0 h1 s0 s1) (e : rsE a 0 = 0) : Hd (rsA a 0) false h1 0 s1 := by
  have e0 : a.r0 = 4 := by
    unfold rsE at e
    by_cases q : a.r0 = 4
    · exact q
    · simp [q] at e
  unfold rsA
  rw [if_pos rfl, if_pos e0]
  exact ⟨fun _ => .inr ⟨rfl, rfl⟩, h.k1, Int.le_refl _, h.n1⟩
theorem Hd.rs1 (h : Hd a h0 h1 s0 s1) (e : rsE a 1 = 0) : Hd (rsA a 1) h0 false s0 0 := by
  have e0 : a.r1 = 4 := by
    unfold rsE at e
    by_cases q : a.r1 = 4
    · exact q
    · simp [q] at e
  unfold rsA
  rw [if_neg (by decide), if_pos rfl, if_pos e0]
  exact ⟨h.k0, fun _ => .inr ⟨rfl, rfl⟩, h.n0, Int.le_refl _⟩
theorem rsN {n : Int} (e : rsE a n ≠ 0) : rsA a n = a := by
  unfold rsE at e
  unfold rsA
  by_cases n0 : n = 0
  · rw [if_pos n0] at e ⊢
    by_cases q : a.r0 = 4
    · rw [if_pos q] at e; exact absurd rfl e
    · rw [if_neg q]
  · rw [if_neg n0] at e ⊢
    by_cases n1 : n = 1
    · rw [if_pos n1] at e ⊢
      by_cases q : a.r1 = 4
      · rw [if_pos q] at e; exact absurd rfl e
      · rw [if_neg q]
    · rw [if_neg n1]
/-- A round: who opens it has heard one, or was silent for eight. -/
theorem Hd.rnd (h : Hd a h0 h1 s0 s1) (ok : Ok a) : (opn a = 0 → h0 = true ∨ 8 ≤ s0) ∧ (opn a = 1 → h1 = true ∨ 8 ≤ s1) ∧ Hd (rnd a) (h0 || decide (0 ≤ opn a)) (h1 || decide (0 ≤ opn a)) (s0 + 1) (s1 + 1) := by
  obtain ⟨k0, k1, n0, n1⟩ := h
  have K0 : h0 = false → a.r0 = 4 ∨ (a.r0 = 3 ∧ a.q0 = s0) := k0
  have K1 : h1 = false → a.r1 = 4 ∨ (a.r1 = 3 ∧ a.q1 = s1) := k1
  obtain ⟨o1, o2, o3, o4, o5⟩ := ok
  rcases opn_parts a with ⟨e, g, _⟩ | ⟨e, g0, g, _⟩ | ⟨e, g0, g1, g2, g3, er⟩
  · rw [e]
    refine ⟨fun _ => ?_, fun q => absurd q (by decide), ?_⟩
    · cases h0 with
      | true => exact .inl rfl
      | false =>
        have := K0 rfl
        unfold d0 at g
        exact .inr (by omega)
    · rw [show decide ((0 : Int) ≤ 0) = true from rfl, Bool.or_true, Bool.or_true]
      exact ⟨nofun, nofun, by omega, by omega⟩
  · rw [e]
    refine ⟨fun q => absurd q (by decide), fun _ => ?_, ?_⟩
    · cases h1 with
      | true => exact .inl rfl
      | false =>
        have := K1 rfl
        unfold d1 at g
        exact .inr (by omega)
    · rw [show decide ((0 : Int) ≤ 1) = true from rfl, Bool.or_true, Bool.or_true]
      exact ⟨nofun, nofun, by omega, by omega⟩
  · rw [e, er]
    refine ⟨fun q => absurd q (by decide), fun q => absurd q (by decide), ?_⟩
    rw [show decide ((0 : Int) ≤ -1) = false from rfl, Bool.or_false, Bool.or_false]
    refine ⟨fun q => ?_, fun q => ?_, by omega, by omega⟩
    · rcases K0 q with g | ⟨g, g'⟩
      · exact .inl g
      · exact .inr ⟨g, by show a.q0 + 1 = s0 + 1; omega⟩
    · rcases K1 q with g | ⟨g, g'⟩
      · exact .inl g
      · exact .inr ⟨g, by show a.q1 + 1 = s1 + 1; omega⟩
end

/-! ### it ends -/
/-- For how many rounds nobody will open one. -/
def lf (k r q : Int) : Int := if r = 1 then 0 else if r = 2 then (if 4 ≤ q then 0 else 4 - q) else if r = 3 then (if 8 + k ≤ q then 0 else 8 + k - q) else 100
def left (a : A) : Int := min (lf 0 a.r0 a.q0) (lf 1 a.r1 a.q1)
theorem lf_pos (k r q : Int) : 0 ≤ lf k r q := by
  unfold lf
  split
  · omega
  · split
    · split <;> omega
    · split
      · split <;> omega
      · omega
theorem lf_zero {k r q : Int} : lf k r q = 0 ↔ r = 1 ∨ (r = 2 ∧ 4 ≤ q) ∨ (r = 3 ∧ 8 + k ≤ q) := by
  unfold lf
  by_cases h1 : r = 1
  · rw [if_pos h1]; exact ⟨fun _ => .inl h1, fun _ => rfl⟩
  · rw [if_neg h1]
    by_cases h2 : r = 2
    · rw [if_pos h2]
      split <;> omega
    · rw [if_neg h2]
      by_cases h3 : r = 3
      · rw [if_pos h3]
        split <;> omega
      · rw [if_neg h3]
        omega
theorem lf_next {k r q : Int} (h0 : 0 < lf k r q) : lf k r (q + 1) = lf k r q - 1 ∨ (lf k r q = 100 ∧ lf k r (q + 1) = 100) := by
  unfold lf at *
  by_cases h1 : r = 1
  · rw [if_pos h1] at h0; omega
  · rw [if_neg h1] at h0 ⊢
    rw [if_neg h1]
    by_cases h2 : r = 2
    · rw [if_pos h2] at h0 ⊢
      rw [if_pos h2]
      split at h0 <;> split <;> omega
    · rw [if_neg h2] at h0 ⊢
      rw [if_neg h2]
      by_cases h3 : r = 3
      · rw [if_pos h3] at h0 ⊢
        rw [if_pos h3]
        split at h0 <;> split <;> omega
      · rw [if_neg h3, if_neg h3]
        exact .inr ⟨rfl, rfl⟩
theorem lf_le {k r q : Int} (hq : 0 ≤ q) (hk : k ≤ 1) (hr : r ≠ 4) (hb : 1 ≤ r ∧ r ≤ 4) : lf k r q ≤ 9 ∧ (r = 2 → lf k r q ≤ 4) := by
  unfold lf
  by_cases h1 : r = 1
  · rw [if_pos h1]; omega
  · rw [if_neg h1]
    by_cases h2 : r = 2
    · rw [if_pos h2]
      split <;> omega
    · rw [if_neg h2, if_pos (by omega)]
      split <;> omega
theorem lf_top (k r q : Int) (hq : 0 ≤ q) (hk : k ≤ 1) (hb : 1 ≤ r ∧ r ≤ 4) : lf k r q ≤ 9 ∨ lf k r q = 100 := by
  by_cases h : r = 4
  · subst h
    exact .inr rfl
  · exact .inl (lf_le hq hk h hb).1
theorem rnd_left {a : A} (ok : Ok a) : (0 ≤ opn a ↔ left a = 0) ∧ (opn a = -1 → (left (rnd a) = left a - 1 ∨ left a = 100) ∧ (rnd a).r0 = a.r0 ∧ (rnd a).r1 = a.r1) ∧ (0 ≤ opn a → 0 ≤ opn (rnd a)) := by
  obtain ⟨o1, o2, o3, o4, o5⟩ := ok
  have z0 := @lf_zero 0 a.r0 a.q0
  have z1 := @lf_zero 1 a.r1 a.q1
  have p0 := lf_pos 0 a.r0 a.q0
  have p1 := lf_pos 1 a.r1 a.q1
  have m0 := lf_top 0 a.r0 a.q0 o4 (by omega) o1
  have m1 := lf_top 1 a.r1 a.q1 o5 (by omega) o2
  rcases opn_parts a with ⟨e, g, hr⟩ | ⟨e, g0, g, hr⟩ | ⟨e, g0, g1, g2, g3, er⟩
  · refine ⟨⟨fun _ => ?_, fun _ => by omega⟩, fun q => by omega, fun _ => opn_act (.inl hr)⟩
    have : lf 0 a.r0 a.q0 = 0 := z0.2 (by unfold d0 at g; omega)
    unfold left
    omega
  · refine ⟨⟨fun _ => ?_, fun _ => by omega⟩, fun q => by omega, fun _ => opn_act (.inr hr)⟩
    have : lf 1 a.r1 a.q1 = 0 := z1.2 (by unfold d1 at g; omega)
    unfold left
    omega
  · have n0 : lf 0 a.r0 a.q0 ≠ 0 := fun h => by have := z0.1 h; unfold d0 at g2; omega
    have n1 : lf 1 a.r1 a.q1 ≠ 0 := fun h => by have := z1.1 h; unfold d1 at g3; omega
    refine ⟨⟨fun q => by omega, fun q => ?_⟩, fun _ => ⟨?_, by rw [er], by rw [er]⟩, fun q => by omega⟩
    · unfold left at q
      omega
    · have s0 := @lf_next 0 a.r0 a.q0 (by omega)
      have s1 := @lf_next 1 a.r1 a.q1 (by omega)
      rw [er]
      unfold left
      simp only
      omega
theorem left_le {a : A} (ok : Ok a) (h : ¬ (a.r0 = 4 ∧ a.r1 = 4)) : left a ≤ 9 ∧ (a.r0 = 2 ∨ a.r1 = 2 → left a ≤ 4) := by
  obtain ⟨o1, o2, o3, o4, o5⟩ := ok
  unfold left
  refine ⟨?_, fun g => ?_⟩
  · by_cases h0 : a.r0 = 4
    · have := (lf_le (k := 1) (q := a.q1) o5 (by omega) (fun g => h ⟨h0, g⟩) o2).1
      omega
    · have := (lf_le (k := 0) (q := a.q0) o4 (by omega) h0 o1).1
      omega
  · rcases g with g | g
    · have := (lf_le (k := 0) (q := a.q0) o4 (by omega) (by omega) o1).2 g
      omega
    · have := (lf_le (k := 1) (q := a.q1) o5 (by omega) (by omega) o2).2 g
      omega
theorem down_left {a : A} (h : a.r0 = 4 ∧ a.r1 = 4) : opn a = -1 := by
  obtain ⟨r0, q0, r1, q1⟩ := a
  obtain ⟨rfl, rfl⟩ := h
  unfold opn tk t1 t2 op
  simp

end Go.Proofs.Ytabhpafmppmigaa.Wt
