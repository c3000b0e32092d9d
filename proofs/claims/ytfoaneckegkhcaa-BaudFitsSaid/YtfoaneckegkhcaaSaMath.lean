/- Plain mathematics of layer 5: oscillators whose rates are within a bound; that who hears looks amid the bits of who sends; and what is heard of three looks. -/
import Derived.Test.YtfoaneckegkhcaaSeMath
namespace Go.Proofs.Ytfoaneckegkhcaa.Sa
open Go.Proofs.Ytfoaneckegkhcaa.Sp Go.Proofs.Ytfoaneckegkhcaa.Wi Go.Proofs.Ytfoaneckegkhcaa.Se
open Go.Proofs.Ytfoaneckegkhcaa.Tk (GoodP Glo IsG Glo_is Glo_eq PP)

/-- Steps that may be, none of whose rates is above a bound. -/
structure Calm (n : Nat) (A R : Nat → Int) (B : Int) : Prop where
  good : GoodP n A R
  lo : 0 ≤ B
  bd : ∀ i, i < n → -B ≤ R i ∧ R i ≤ B

section
variable {n : Nat} {A R : Nat → Int} {B : Int}
theorem Calm.rt (g : Calm n A R B) (k : Nat) (h : k ≤ n) : -B ≤ Tk.rt R k ∧ Tk.rt R k ≤ B := by
  have := g.lo
  cases k with
  | zero => exact ⟨by simp [Tk.rt]; omega, by simp [Tk.rt]; omega⟩
  | succ k => exact g.bd k (by omega)
/-- One tick more counts the rate that goes in it. -/
theorem PP_one (g : Calm n A R B) (t : Int) : ∃ c, 1000000 - B ≤ c ∧ c ≤ 1000000 + B ∧ PP A R n (t + 1) = PP A R n t + c := by
  have s := Tk.stop_at A n t
  generalize hk : Tk.stop A n t = k at s
  obtain ⟨s1, s2, s3⟩ := s
  rw [Tk.PP_eq ⟨s1, s2, s3⟩]
  by_cases hn : k < n ∧ A k < t + 1
  · obtain ⟨hn, ha⟩ := hn
    have e : A k = t := by have := s3 hn; omega
    have st : Tk.AtStop A n (t + 1) (k + 1) := by
      refine ⟨hn, fun i hi => ?_, fun h => ?_⟩
      · by_cases c : i = k
        · subst c; exact ha
        · have := s2 i (by omega); omega
      · have := g.good.up k h; omega
    rw [Tk.PP_eq st]
    have b := g.bd k hn
    refine ⟨1000000 + R k, by omega, by omega, ?_⟩
    show Tk.sm A R k + (A k - Tk.fr A k) * (1000000 + Tk.rt R k) + (t + 1 - A k) * (1000000 + R k) = Tk.sm A R k + (t - Tk.fr A k) * (1000000 + Tk.rt R k) + (1000000 + R k)
    rw [e, show t + 1 - t = 1 by omega, Int.one_mul]
  · have st : Tk.AtStop A n (t + 1) k := by
      refine ⟨s1, fun i hi => ?_, fun h => ?_⟩
      · have := s2 i hi; omega
      · have := s3 h; omega
    rw [Tk.PP_eq st]
    have b := g.rt k s1
    refine ⟨1000000 + Tk.rt R k, by omega, by omega, ?_⟩
    unfold Tk.pp
    rw [show t + 1 - Tk.fr A k = (t - Tk.fr A k) + 1 by omega, Int.add_mul, Int.one_mul]
    omega
/-- What d ticks more count. -/
theorem PP_more (g : Calm n A R B) (t : Int) (d : Nat) : PP A R n t + (1000000 - B) * d ≤ PP A R n (t + d) ∧ PP A R n (t + d) ≤ PP A R n t + (1000000 + B) * d := by
  induction d with
  | zero => simp
  | succ d ih =>
    obtain ⟨c, c1, c2, e⟩ := PP_one g (t + d)
    rw [show t + ((d + 1 : Nat) : Int) = t + d + 1 by omega, e]
    have e1 : (1000000 - B) * ((d + 1 : Nat) : Int) = (1000000 - B) * d + (1000000 - B) := by rw [show ((d + 1 : Nat) : Int) = d + 1 by omega, Int.mul_add, Int.mul_one]
    have e2 : (1000000 + B) * ((d + 1 : Nat) : Int) = (1000000 + B) * d + (1000000 + B) := by rw [show ((d + 1 : Nat) : Int) = d + 1 by omega, Int.mul_add, Int.mul_one]
    rw [e1, e2]
    generalize (1000000 - B) * (d : Int) = x at *
    generalize (1000000 + B) * (d : Int) = y at *
    omega
/-- The same, of two ticks, at a bound that is a number. -/
theorem PP_span (g : Calm n A R B) {t u : Int} (h : t ≤ u) : PP A R n t + (1000000 - B) * (u - t) ≤ PP A R n u ∧ PP A R n u ≤ PP A R n t + (1000000 + B) * (u - t) := by
  have := PP_more g t (u - t).toNat
  rw [show t + ((u - t).toNat : Int) = u by omega, show ((u - t).toNat : Int) = u - t by omega] at this
  exact this
theorem Calm.up {B' : Int} (g : Calm n A R B) (h : B ≤ B') : Calm n A R B' := ⟨g.good, by have := g.lo; omega, fun i hi => by have := g.bd i hi; omega⟩

/-- What has been counted at the first tick of a number, in parts. -/
theorem Glo_parts (g : Calm n A R B) {a : Int} (h0 : 0 ≤ a) (h1 : a ≤ 4000000000) : 1000000 * a ≤ PP A R n (Glo A R n a) ∧ PP A R n (Glo A R n a) ≤ 1000000 * a + 999999 + B := by
  have x := Glo_is A R n a
  have x0 := x.lo
  have x1 := Glo_there g.good h1
  have q := Glo_at g.good h1
  have b0 := g.lo
  unfold Tk.Loc at q
  rw [Tk.clamp_id (by omega) (by omega)] at q
  refine ⟨by omega, ?_⟩
  rcases Wi.ltge 0 (Glo A R n a) with c | c
  · have p := x.before (Glo A R n a - 1) (by omega) (by omega)
    unfold Tk.Loc at p
    rw [Tk.clamp_id (by omega) (by omega)] at p
    obtain ⟨d, _, d1, e⟩ := PP_one g (Glo A R n a - 1)
    rw [show Glo A R n a - 1 + 1 = Glo A R n a by omega] at e
    omega
  · have e : Glo A R n a = 0 := by omega
    rw [e, Tk.PP_zero g.good]
    omega
/-- A tick lies from the first tick of a number on just if that number has been counted. -/
theorem Glo_le {a u : Int} (h0 : 0 ≤ u) (h : 1000000 * a ≤ PP A R n u) : Glo A R n a ≤ u := by
  have x := Glo_is A R n a
  rcases Wi.ltge u (Glo A R n a) with c | c
  · have p := x.before u h0 c
    have := x.hi
    unfold Tk.Loc at p
    rw [Tk.clamp_id (by omega) (by omega)] at p
    omega
  · exact c
theorem lt_Glo (g : Calm n A R B) {a u : Int} (h1 : a ≤ 4000000000) (h : PP A R n u < 1000000 * a) : u < Glo A R n a := by
  have q := Glo_at g.good h1
  have x0 := (Glo_is A R n a).lo
  have x1 := Glo_there g.good h1
  unfold Tk.Loc at q
  rw [Tk.clamp_id (by omega) (by omega)] at q
  rcases Wi.ltge u (Glo A R n a) with c | c
  · exact c
  · have := Tk.PP_mono g.good c
    omega
end

/-- How many of three looks are high: two or three? -/
def maj (a b c : Bool) : Bool := a && b || a && c || b && c
/-- What is heard of bit i, of a line that is low at some ticks. -/
def heard (low : Int → Bool) (g : Int → Int) (N : Int) (i : Nat) : Bool := maj (!low (g (N + 16 * i + 7))) (!low (g (N + 16 * i + 8))) (!low (g (N + 16 * i + 9)))
theorem maj_same (a : Bool) : maj a a a = a := by cases a <;> rfl

/-- Who hears looks amid the bits of who sends, if both are off by one part of a hundred at most. -/
theorem look_in {n n' : Nat} {A R A' R' : Nat → Int} (g : Calm n A R 10000) (g' : Calm n' A' R' 10000) {m : Int} (m0 : 0 ≤ m) (m1 : m ≤ 1073741824) (i : Nat) (hi : i < 11) (j : Int) (j0 : 7 ≤ j) (j1 : j ≤ 9) :
    Glo A R n (m + 16 * i) ≤ Glo A' R' n' (Tk.Loc A' R' n' (Glo A R n m) + 16 * i + j) ∧ Glo A' R' n' (Tk.Loc A' R' n' (Glo A R n m) + 16 * i + j) < Glo A R n (m + 16 * i + 16) := by
  have t := Glo_parts g m0 (by omega)
  have t0 := (Glo_is A R n m).lo
  have t1 := Glo_there g.good (show m ≤ 4000000000 by omega)
  -- when it begins
  have t2 : Glo A R n m ≤ 1100000000 := by
    have b := PP_span g (show 0 ≤ Glo A R n m from t0)
    rw [Tk.PP_zero g.good] at b
    omega
  have l := Tk.Loc_bd g'.good (Glo A R n m) t0 (by omega)
  have lp : 1000000 * Tk.Loc A' R' n' (Glo A R n m) ≤ PP A' R' n' (Glo A R n m) ∧ PP A' R' n' (Glo A R n m) ≤ 1000000 * Tk.Loc A' R' n' (Glo A R n m) + 999999 := by
    unfold Tk.Loc
    rw [Tk.clamp_id (by omega) (by omega)]
    omega
  have l0 : 0 ≤ Tk.Loc A' R' n' (Glo A R n m) := by
    unfold Tk.Loc
    rw [Tk.clamp_id (by omega) (by omega)]
    have := (Tk.PP_bd g'.good (Glo A R n m) t0).1
    omega
  generalize Tk.Loc A' R' n' (Glo A R n m) = N at *
  have u := Glo_parts g' (a := N + 16 * i + j) (by omega) (by omega)
  have u0 := (Glo_is A' R' n' (N + 16 * i + j)).lo
  generalize Glo A' R' n' (N + 16 * i + j) = U at *
  have tu : Glo A R n m ≤ U := by
    rcases Wi.ltge U (Glo A R n m) with c | c
    · have := Tk.PP_mono g'.good (show U ≤ Glo A R n m by omega)
      omega
    · exact c
  have b := PP_span g tu
  have b' := PP_span g' tu
  generalize Glo A R n m = T at *
  have lo : 1000000 * (m + 16 * (i : Int)) ≤ PP A R n U := by omega
  have hi' : PP A R n U < 1000000 * (m + 16 * (i : Int) + 16) := by omega
  exact ⟨Glo_le u0 lo, lt_Glo g (by omega) hi'⟩

/-- Within a bit's ticks the line is low just if that bit is. -/
theorem low_in {n : Nat} {A R : Nat → Int} {F : Nat → Bool} {m : Int} {l : List S2} (h : PlainOf (lows (Glo A R n) F m 11) l) (i : Nat) (hi : i < 11) {u : Int} (h0 : Glo A R n (m + 16 * i) ≤ u) (h1 : u < Glo A R n (m + 16 * i + 16)) : lowB l u = !F i := by
  cases e : F i with
  | false =>
    rw [lowB_iff.2 ((h.2 u).2 ⟨_, lows_mem.2 ⟨i, hi, e, rfl⟩, h0, h1⟩)]
    rfl
  | true =>
    refine lowB_false.2 fun hl => ?_
    obtain ⟨s, hs, a, b⟩ := (h.2 u).1 hl
    obtain ⟨k, hk, hf, rfl⟩ := lows_mem.1 hs
    simp only at a b
    rcases Nat.lt_trichotomy k i with c | c | c
    · have := Glo_mono (A := A) (R := R) (n := n) (show m + 16 * (k : Int) + 16 ≤ m + 16 * i by omega)
      omega
    · subst c; rw [e] at hf; cases hf
    · have := Glo_mono (A := A) (R := R) (n := n) (show m + 16 * (i : Int) + 16 ≤ m + 16 * k by omega)
      omega

/-- A frame is heard as it was sent. -/
theorem heard_true {n n' : Nat} {A R A' R' : Nat → Int} (g : Calm n A R 10000) (g' : Calm n' A' R' 10000) {m : Int} (m0 : 0 ≤ m) (m1 : m ≤ 1073741824) {F : Nat → Bool} {l : List S2} (h : PlainOf (lows (Glo A R n) F m 11) l) (i : Nat) (hi : i < 11) :
    heard (lowB l) (Glo A' R' n') (Tk.Loc A' R' n' (Glo A R n m)) i = F i := by
  have a := look_in g g' m0 m1 i hi 7 (by omega) (by omega)
  have b := look_in g g' m0 m1 i hi 8 (by omega) (by omega)
  have c := look_in g g' m0 m1 i hi 9 (by omega) (by omega)
  unfold heard
  rw [low_in h i hi a.1 a.2, low_in h i hi b.1 b.2, low_in h i hi c.1 c.2, maj_same]
  simp

theorem Loc_all (A R : Nat → Int) (n : Nat) (g : GoodP n A R) (t : Int) : 0 ≤ Tk.Loc A R n t ∧ Tk.Loc A R n t ≤ 4400000000 := by
  have h0 := Tk.clamp_lo t
  have h1 := Tk.clamp_hi t
  have := Tk.PP_bd g (Tk.clamp t) h0
  unfold Tk.Loc
  omega

end Go.Proofs.Ytfoaneckegkhcaa.Sa
