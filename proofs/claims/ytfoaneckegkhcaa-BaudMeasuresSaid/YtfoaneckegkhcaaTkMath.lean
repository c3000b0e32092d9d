/- The plain arithmetic of an oscillator's steps: what is counted up to a tick, that it never goes back, and that the first tick of a number is one and only one. No condition; no program is named. -/
import Derived.Below
namespace Go.Proofs.Ytfoaneckegkhcaa.Tk

/-- From when on the rate of round k's head goes. -/
def fr (A : Nat → Int) : Nat → Int
  | 0 => 0
  | k + 1 => A k
def rt (R : Nat → Int) : Nat → Int
  | 0 => 0
  | k + 1 => R k
def sm (A R : Nat → Int) : Nat → Int
  | 0 => 0
  | k + 1 => sm A R k + (A k - fr A k) * (1000000 + rt R k)

/-- How many steps lie ahead of tick t. -/
def AtStop (A : Nat → Int) (n : Nat) (t : Int) (k : Nat) : Prop := k ≤ n ∧ (∀ i, i < k → A i < t) ∧ (k < n → t ≤ A k)

theorem AtStop.uniq {A : Nat → Int} {n : Nat} {t : Int} {k j : Nat} (h : AtStop A n t k) (g : AtStop A n t j) : k = j := by
  obtain ⟨h1, h2, h3⟩ := h
  obtain ⟨g1, g2, g3⟩ := g
  rcases Nat.lt_trichotomy k j with c | c | c
  · have a := h3 (by omega); have b := g2 k c; omega
  · exact c
  · have a := g3 (by omega); have b := h2 j c; omega

theorem AtStop.ex (A : Nat → Int) (n : Nat) (t : Int) : ∃ k, AtStop A n t k := by
  induction n with
  | zero => exact ⟨0, Nat.le_refl _, fun i h => by omega, fun h => by omega⟩
  | succ n ih =>
    obtain ⟨k, h1, h2, h3⟩ := ih
    by_cases hk : k < n
    · exact ⟨k, by omega, h2, fun _ => h3 hk⟩
    · obtain rfl : k = n := by omega
      by_cases ha : A k < t
      · refine ⟨k + 1, by omega, fun i hi => ?_, fun h => by omega⟩
        by_cases e : i = k
        · subst e; exact ha
        · exact h2 i (by omega)
      · exact ⟨k, by omega, h2, fun _ => by omega⟩

noncomputable def stop (A : Nat → Int) (n : Nat) (t : Int) : Nat := (AtStop.ex A n t).choose
theorem stop_at (A : Nat → Int) (n : Nat) (t : Int) : AtStop A n t (stop A n t) := (AtStop.ex A n t).choose_spec
theorem stop_eq {A : Nat → Int} {n : Nat} {t : Int} {k : Nat} (h : AtStop A n t k) : stop A n t = k := (stop_at A n t).uniq h

/-- All parts that are counted ahead of tick t, where k steps lie ahead of it. -/
def pp (A R : Nat → Int) (k : Nat) (t : Int) : Int := sm A R k + (t - fr A k) * (1000000 + rt R k)
noncomputable def PP (A R : Nat → Int) (n : Nat) (t : Int) : Int := pp A R (stop A n t) t
theorem PP_eq {A R : Nat → Int} {n : Nat} {t : Int} {k : Nat} (h : AtStop A n t k) : PP A R n t = pp A R k t := by rw [PP, stop_eq h]

def clamp (t : Int) : Int := if t < 0 then 0 else if 4294967296 < t then 4294967296 else t
theorem clamp_lo (t : Int) : 0 ≤ clamp t := by unfold clamp; split <;> (try split) <;> omega
theorem clamp_hi (t : Int) : clamp t ≤ 4294967296 := by unfold clamp; split <;> (try split) <;> omega
theorem clamp_id {t : Int} (h : 0 ≤ t) (h' : t ≤ 4294967296) : clamp t = t := by unfold clamp; split <;> (try split) <;> omega
noncomputable def Loc (A R : Nat → Int) (n : Nat) (t : Int) : Int := PP A R n (clamp t) / 1000000

structure GoodP (n : Nat) (A R : Nat → Int) : Prop where
  len : n ≤ 64
  at_ : ∀ i, i < n → 0 ≤ A i ∧ A i ≤ 4294967296
  rate : ∀ i, i < n → -20000 ≤ R i ∧ R i ≤ 20000
  up : ∀ i, i + 1 < n → A i < A (i + 1)

noncomputable def goodB (n : Nat) (A R : Nat → Int) : Bool := @decide (GoodP n A R) (Classical.propDecidable _)
theorem goodB_true {n : Nat} {A R : Nat → Int} : goodB n A R = true ↔ GoodP n A R := by unfold goodB; exact @decide_eq_true_iff _ (Classical.propDecidable _)
theorem goodB_yes {n : Nat} {A R : Nat → Int} (h : GoodP n A R) : goodB n A R = true := goodB_true.2 h
theorem goodB_no {n : Nat} {A R : Nat → Int} (h : ¬ GoodP n A R) : goodB n A R = false := by
  cases e : goodB n A R with
  | false => rfl
  | true => exact absurd (goodB_true.1 e) h

section
variable {n : Nat} {A R : Nat → Int}

theorem rt_bd (g : GoodP n A R) (k : Nat) (h : k ≤ n) : -20000 ≤ rt R k ∧ rt R k ≤ 20000 := by
  cases k with
  | zero => exact ⟨by simp [rt], by simp [rt]⟩
  | succ k => exact g.rate k (by omega)
theorem fr_bd (g : GoodP n A R) (k : Nat) (h : k ≤ n) : 0 ≤ fr A k ∧ fr A k ≤ 4294967296 := by
  cases k with
  | zero => exact ⟨by simp [fr], by simp [fr]⟩
  | succ k => exact g.at_ k (by omega)
theorem fr_le (g : GoodP n A R) (k : Nat) (h : k < n) : fr A k ≤ A k := by
  cases k with
  | zero => exact (g.at_ 0 h).1
  | succ k => exact Int.le_of_lt (g.up k h)
theorem mul_bd {d c : Int} (h : 0 ≤ d) (h1 : 980000 ≤ c) (h2 : c ≤ 1020000) : d * 980000 ≤ d * c ∧ d * c ≤ d * 1020000 :=
  ⟨Int.mul_le_mul_of_nonneg_left h1 h, Int.mul_le_mul_of_nonneg_left h2 h⟩
theorem sm_bd (g : GoodP n A R) (k : Nat) (h : k ≤ n) : fr A k * 980000 ≤ sm A R k ∧ sm A R k ≤ fr A k * 1020000 := by
  induction k with
  | zero => simp [fr, sm]
  | succ k ih =>
    have i := ih (by omega)
    have b := rt_bd g k (by omega)
    have f := fr_le g k (by omega)
    have m := mul_bd (d := A k - fr A k) (c := 1000000 + rt R k) (by omega) (by omega) (by omega)
    show A k * 980000 ≤ sm A R k + (A k - fr A k) * (1000000 + rt R k) ∧ sm A R k + (A k - fr A k) * (1000000 + rt R k) ≤ A k * 1020000
    generalize (A k - fr A k) * (1000000 + rt R k) = z at m ⊢
    omega
theorem pp_bd (g : GoodP n A R) (k : Nat) (h : k ≤ n) (t : Int) (ht : fr A k ≤ t) : t * 980000 ≤ pp A R k t ∧ pp A R k t ≤ t * 1020000 := by
  have i := sm_bd g k h
  have b := rt_bd g k h
  have m := mul_bd (d := t - fr A k) (c := 1000000 + rt R k) (by omega) (by omega) (by omega)
  unfold pp
  generalize (t - fr A k) * (1000000 + rt R k) = z at m ⊢
  omega
theorem stop_fr {t : Int} {k : Nat} (h0 : 0 ≤ t) (h : AtStop A n t k) : fr A k ≤ t := by
  cases k with
  | zero => exact h0
  | succ k => exact Int.le_of_lt (h.2.1 k (by omega))
theorem PP_bd (g : GoodP n A R) (t : Int) (h0 : 0 ≤ t) : t * 980000 ≤ PP A R n t ∧ PP A R n t ≤ t * 1020000 := by
  have s := stop_at A n t
  exact pp_bd g _ s.1 t (stop_fr h0 s)
/-- One tick more counts the rate that goes in it. -/
theorem PP_succ (g : GoodP n A R) (t : Int) : ∃ c, 980000 ≤ c ∧ c ≤ 1020000 ∧ PP A R n (t + 1) = PP A R n t + c := by
  have s := stop_at A n t
  generalize hk : stop A n t = k at s
  obtain ⟨s1, s2, s3⟩ := s
  rw [PP_eq ⟨s1, s2, s3⟩]
  by_cases hn : k < n ∧ A k < t + 1
  · obtain ⟨hn, ha⟩ := hn
    have e : A k = t := by have := s3 hn; omega
    have st : AtStop A n (t + 1) (k + 1) := by
      refine ⟨hn, fun i hi => ?_, fun h => ?_⟩
      · by_cases c : i = k
        · subst c; exact ha
        · have := s2 i (by omega); omega
      · have := g.up k h; omega
    rw [PP_eq st]
    have b := g.rate k hn
    refine ⟨1000000 + R k, by omega, by omega, ?_⟩
    show sm A R k + (A k - fr A k) * (1000000 + rt R k) + (t + 1 - A k) * (1000000 + R k) = sm A R k + (t - fr A k) * (1000000 + rt R k) + (1000000 + R k)
    rw [e, show t + 1 - t = 1 by omega, Int.one_mul]
  · have st : AtStop A n (t + 1) k := by
      refine ⟨s1, fun i hi => ?_, fun h => ?_⟩
      · have := s2 i hi; omega
      · have := s3 h; omega
    rw [PP_eq st]
    have b := rt_bd g k s1
    refine ⟨1000000 + rt R k, by omega, by omega, ?_⟩
    unfold pp
    rw [show t + 1 - fr A k = (t - fr A k) + 1 by omega, Int.add_mul, Int.one_mul]
    omega
theorem PP_zero (g : GoodP n A R) : PP A R n 0 = 0 := by have := PP_bd g 0 (by decide); omega
theorem PP_add (g : GoodP n A R) (t : Int) (d : Nat) : PP A R n t + 980000 * d ≤ PP A R n (t + d) ∧ PP A R n (t + d) ≤ PP A R n t + 1020000 * d := by
  induction d with
  | zero => simp
  | succ d ih =>
    obtain ⟨c, c1, c2, e⟩ := PP_succ g (t + d)
    rw [show t + ((d + 1 : Nat) : Int) = t + d + 1 by omega, e]
    omega
theorem PP_mono (g : GoodP n A R) {t u : Int} (h : t ≤ u) : PP A R n t ≤ PP A R n u := by
  have := (PP_add g t (u - t).toNat).1
  rw [show t + ((u - t).toNat : Int) = u by omega] at this
  omega
theorem clamp_mono {t u : Int} (h : t ≤ u) : clamp t ≤ clamp u := by unfold clamp; repeat' split <;> omega
theorem Loc_mono (g : GoodP n A R) {t u : Int} (h : t ≤ u) : Loc A R n t ≤ Loc A R n u := by
  unfold Loc
  have := PP_mono g (clamp_mono h)
  omega
theorem Loc_bd (g : GoodP n A R) (t : Int) (h0 : 0 ≤ t) (h1 : t ≤ 4294967296) : Loc A R n t ≤ t + t / 50 ∧ t - t / 50 - 1 ≤ Loc A R n t := by
  unfold Loc
  rw [clamp_id h0 h1]
  have := PP_bd g t h0
  omega
end

/-- g is the first tick at which m are counted, or the last tick if none is. -/
structure IsG (A R : Nat → Int) (n : Nat) (m g : Int) : Prop where
  lo : 0 ≤ g
  hi : g ≤ 4294967296
  before : ∀ t, 0 ≤ t → t < g → Loc A R n t < m
  there : g < 4294967296 → m ≤ Loc A R n g

theorem IsG.uniq {A R : Nat → Int} {n : Nat} {m g k : Int} (h : IsG A R n m g) (i : IsG A R n m k) : g = k := by
  have a := h.lo; have b := h.hi; have c := i.lo; have d := i.hi
  rcases Int.lt_trichotomy g k with e | e | e
  · have x := h.there (by omega); have y := i.before g a e; omega
  · exact e
  · have x := i.there (by omega); have y := h.before k c e; omega

theorem first_or (f : Int → Int) (m : Int) (N : Nat) : (∃ g : Int, 0 ≤ g ∧ g < N ∧ (∀ t, 0 ≤ t → t < g → f t < m) ∧ m ≤ f g) ∨ (∀ t : Int, 0 ≤ t → t < N → f t < m) := by
  induction N with
  | zero => exact .inr fun t h h' => by omega
  | succ N ih =>
    rcases ih with ⟨g, g0, g1, g2, g3⟩ | h
    · exact .inl ⟨g, g0, by omega, g2, g3⟩
    · by_cases c : f N < m
      · refine .inr fun t t0 t1 => ?_
        by_cases e : t = N
        · subst e; exact c
        · exact h t t0 (by omega)
      · exact .inl ⟨N, by omega, by omega, h, by omega⟩

theorem IsG.ex (A R : Nat → Int) (n : Nat) (m : Int) : ∃ g, IsG A R n m g := by
  generalize hN : (4294967296 : Int).toNat = N
  have e : (N : Int) = 4294967296 := by omega
  rcases first_or (Loc A R n) m N with ⟨g, g0, g1, g2, g3⟩ | h
  · exact ⟨g, g0, by omega, g2, fun _ => g3⟩
  · exact ⟨4294967296, by omega, by omega, fun t t0 t1 => h t t0 (by omega), fun h => by omega⟩
noncomputable def Glo (A R : Nat → Int) (n : Nat) (m : Int) : Int := (IsG.ex A R n m).choose
theorem Glo_is (A R : Nat → Int) (n : Nat) (m : Int) : IsG A R n m (Glo A R n m) := (IsG.ex A R n m).choose_spec
theorem Glo_eq {A R : Nat → Int} {n : Nat} {m g : Int} (h : IsG A R n m g) : Glo A R n m = g := (Glo_is A R n m).uniq h

/-- Two ends of a search that meet have found the first tick. -/
theorem IsG.of_meet {A R : Nat → Int} {n : Nat} {m g : Int} (h0 : 0 ≤ g) (h1 : g ≤ 4294967296) (hl : ∀ t, 0 ≤ t → t < g → Loc A R n t < m) (hh : g < 4294967296 → m ≤ Loc A R n g) : IsG A R n m g := ⟨h0, h1, hl, hh⟩
end Go.Proofs.Ytfoaneckegkhcaa.Tk
