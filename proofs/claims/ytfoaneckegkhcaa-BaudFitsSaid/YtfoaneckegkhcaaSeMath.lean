/- Plain mathematics of layer 4: that the first tick of a number rises with it, the spans of a frame's low bits, and that they lie in their slot. -/
import Derived.Test.YtfoaneckegkhcaaTkMath
import Derived.Test.YtfoaneckegkhcaaWiRJoin
namespace Go.Proofs.Ytfoaneckegkhcaa.Se
open Go.Proofs.Ytfoaneckegkhcaa.Sp Go.Proofs.Ytfoaneckegkhcaa.Wi
open Go.Proofs.Ytfoaneckegkhcaa.Tk (GoodP Glo IsG Glo_is Glo_eq)

section
variable {n : Nat} {A R : Nat → Int}
theorem Glo_in (A R : Nat → Int) (n : Nat) (m : Int) : 0 ≤ Glo A R n m ∧ Glo A R n m ≤ 4294967296 := ⟨(Glo_is A R n m).lo, (Glo_is A R n m).hi⟩
theorem Glo_mono {a b : Int} (h : a ≤ b) : Glo A R n a ≤ Glo A R n b := by
  have x := Glo_is A R n a
  have y := Glo_is A R n b
  have y0 := y.lo
  have x1 := x.hi
  rcases Wi.ltge (Glo A R n b) (Glo A R n a) with c | c
  · have p := y.there (by omega)
    have q := x.before _ y.lo c
    omega
  · exact c
theorem Loc_step (g : GoodP n A R) (t : Int) (h0 : 0 ≤ t) (h1 : t < 4294967296) : Tk.Loc A R n (t + 1) ≤ Tk.Loc A R n t + 2 := by
  obtain ⟨c, _, c1, e⟩ := Tk.PP_succ g t
  unfold Tk.Loc
  rw [Tk.clamp_id (by omega) (by omega), Tk.clamp_id (by omega) (by omega), e]
  omega
/-- What may be counted is counted ahead of the last tick. -/
theorem Glo_there (g : GoodP n A R) {a : Int} (h1 : a ≤ 4000000000) : Glo A R n a < 4294967296 := by
  have x := Glo_is A R n a
  have b := (Tk.Loc_bd g 4294967295 (by omega) (by omega)).2
  have x1 := x.hi
  rcases Wi.ltge (Glo A R n a) 4294967296 with c | c
  · exact c
  · have := x.before 4294967295 (by omega) (by omega)
    omega
theorem Glo_at (g : GoodP n A R) {a : Int} (h1 : a ≤ 4000000000) : a ≤ Tk.Loc A R n (Glo A R n a) := (Glo_is A R n a).there (Glo_there g h1)
theorem Loc_zero (g : GoodP n A R) : Tk.Loc A R n 0 = 0 := by
  rw [Tk.Loc, Tk.clamp_id (by omega) (by omega), Tk.PP_zero g]
  rfl
/-- When a number is counted first no more than one more is. -/
theorem Glo_no (g : GoodP n A R) {a : Int} (h0 : 0 ≤ a) : Tk.Loc A R n (Glo A R n a) ≤ a + 1 := by
  have x := Glo_is A R n a
  have x0 := x.lo
  have x1 := x.hi
  rcases Wi.ltge 0 (Glo A R n a) with c | c
  · have p := x.before (Glo A R n a - 1) (by omega) (by omega)
    have s := Loc_step g (Glo A R n a - 1) (by omega) (by omega)
    rw [show Glo A R n a - 1 + 1 = Glo A R n a by omega] at s
    omega
  · have e : Glo A R n a = 0 := by omega
    rw [e, Loc_zero g]
    omega
theorem Glo_lt (g : GoodP n A R) {a b : Int} (h0 : 0 ≤ a) (h : a + 2 ≤ b) (h1 : b ≤ 4000000000) : Glo A R n a < Glo A R n b := by
  have p := Glo_no g h0
  have q := Glo_at g h1
  have m := Glo_mono (A := A) (R := R) (n := n) (show a ≤ b by omega)
  rcases Wi.ltge (Glo A R n a) (Glo A R n b) with c | c
  · exact c
  · have e : Glo A R n a = Glo A R n b := by omega
    rw [e] at p
    omega
end

/-- Without steps all ticks are counted. -/
theorem good0 (A R : Nat → Int) : GoodP 0 A R := ⟨by omega, fun i h => by omega, fun i h => by omega, fun i h => by omega⟩
theorem Loc0 (A R : Nat → Int) (t : Int) (h0 : 0 ≤ t) (h1 : t ≤ 4294967296) : Tk.Loc A R 0 t = t := by
  have s : Tk.AtStop A 0 t 0 := ⟨Nat.le_refl _, fun i h => by omega, fun h => by omega⟩
  rw [Tk.Loc, Tk.clamp_id h0 h1, Tk.PP_eq s]
  simp [Tk.pp, Tk.sm, Tk.fr, Tk.rt]
theorem Glo0 (A R : Nat → Int) (m : Int) (h0 : 0 ≤ m) (h1 : m ≤ 4294967296) : Glo A R 0 m = m :=
  Glo_eq ⟨h0, h1, fun t t0 t1 => by rw [Loc0 A R t t0 (by omega)]; omega, fun h => by rw [Loc0 A R m h0 h1]; omega⟩

/-- The spans of a frame's low bits below bit k, one for each. -/
def lows (g : Int → Int) (F : Nat → Bool) (m : Int) : Nat → List S2
  | 0 => []
  | k + 1 => if F k then lows g F m k else lows g F m k ++ [(g (m + 16 * k), g (m + 16 * k + 16))]
section
variable {g : Int → Int} {F : Nat → Bool} {m : Int}
theorem lows_hi {k : Nat} (h : F k = true) : lows g F m (k + 1) = lows g F m k := by rw [lows, if_pos h]
theorem lows_lo {k : Nat} (h : F k = false) : lows g F m (k + 1) = lows g F m k ++ [(g (m + 16 * k), g (m + 16 * k + 16))] := by rw [lows, if_neg (by simp [h])]
theorem lows_len : ∀ k, (lows g F m k).length ≤ k
  | 0 => Nat.le_refl _
  | k + 1 => by
    have := lows_len k
    rw [lows]
    split
    · omega
    · simp; omega
theorem lows_mem {s : S2} : ∀ {k}, s ∈ lows g F m k ↔ ∃ i : Nat, i < k ∧ F i = false ∧ s = (g (m + 16 * i), g (m + 16 * i + 16))
  | 0 => by simp [lows]
  | k + 1 => by
    cases h : F k with
    | true =>
      rw [lows_hi h, lows_mem]
      constructor
      · rintro ⟨i, a, b⟩
        exact ⟨i, by omega, b⟩
      · rintro ⟨i, a, b, c⟩
        by_cases e : i = k
        · subst e; rw [h] at b; cases b
        · exact ⟨i, by omega, b, c⟩
    | false =>
      rw [lows_lo h, List.mem_append, lows_mem]
      constructor
      · rintro (⟨i, a, b⟩ | c)
        · exact ⟨i, by omega, b⟩
        · exact ⟨k, by omega, h, by simpa using c⟩
      · rintro ⟨i, a, b, c⟩
        by_cases e : i = k
        · subst e; exact .inr (by simpa using c)
        · exact .inl ⟨i, by omega, b, c⟩
theorem lows_near (h : ∀ x, 0 ≤ g x ∧ g x ≤ 4294967296) (k : Nat) : Near (lows g F m k) := by
  have key : ∀ i, i < (lows g F m k).length → (0 ≤ fr (lows g F m k) i ∧ fr (lows g F m k) i ≤ 4294967296) ∧ (0 ≤ tp (lows g F m k) i ∧ tp (lows g F m k) i ≤ 4294967296) := fun i hi => by
    obtain ⟨j, _, _, e⟩ := lows_mem.1 (mem_fr hi)
    injection e with e1 e2
    rw [e1, e2]
    exact ⟨h _, h _⟩
  exact ⟨fun i hi => by have := (key i hi).1; omega, fun i hi => by have := (key i hi).1; omega, fun i hi => by have := (key i hi).2; omega, fun i hi => by have := (key i hi).2; omega⟩
end

/-- All that a frame pulls down lies in what goes from its first bit up to its last one's end. -/
theorem lows_in {n : Nat} {A R : Nat → Int} {F : Nat → Bool} {m f t : Int} {l : List S2} (h : PlainOf (lows (Glo A R n) F m 11) l) (hf : f ≤ m) (ht : m + 176 ≤ t) (i : Nat) (hi : i < l.length) : Glo A R n f ≤ fr l i ∧ tp l i ≤ Glo A R n t := by
  have hs := h.1.1 _ (mem_fr hi)
  simp only at hs
  have lo : Low l (fr l i) := low_iff.2 ⟨i, hi, by omega, hs⟩
  have hi' : Low l (tp l i - 1) := low_iff.2 ⟨i, hi, by omega, by omega⟩
  obtain ⟨s, ms, a1, a2⟩ := (h.2 _).1 lo
  obtain ⟨s', ms', b1, b2⟩ := (h.2 _).1 hi'
  obtain ⟨j, hj, _, rfl⟩ := lows_mem.1 ms
  obtain ⟨j', hj', _, rfl⟩ := lows_mem.1 ms'
  have p := Glo_mono (A := A) (R := R) (n := n) (show f ≤ m + 16 * j by omega)
  have q := Glo_mono (A := A) (R := R) (n := n) (show m + 16 * (j' : Int) + 16 ≤ t by omega)
  simp only at a1 b2
  omega
/-- Who pulls nothing down has no low bit. -/
theorem lows_none {n : Nat} {A R : Nat → Int} (g : GoodP n A R) {F : Nat → Bool} {m : Int} {l : List S2} (h : PlainOf (lows (Glo A R n) F m 11) l) (h0 : 0 ≤ m) (h1 : m ≤ 3000000000) (hl : l.length = 0) (i : Nat) (hi : i < 11) : F i = true := by
  cases e : F i with
  | true => rfl
  | false =>
    have mem : (Glo A R n (m + 16 * i), Glo A R n (m + 16 * i + 16)) ∈ lows (Glo A R n) F m 11 := lows_mem.2 ⟨i, hi, e, rfl⟩
    have lt := Glo_lt g (show 0 ≤ m + 16 * (i : Int) by omega) (show m + 16 * (i : Int) + 2 ≤ m + 16 * (i : Int) + 16 by omega) (by omega)
    have lo : Low (lows (Glo A R n) F m 11) (Glo A R n (m + 16 * i)) := ⟨_, mem, by simp only; omega, lt⟩
    have := (h.2 _).2 lo
    rw [List.length_eq_zero_iff.1 hl] at this
    exact absurd this low_nil

end Go.Proofs.Ytfoaneckegkhcaa.Se
