/- Where a plain list's line falls; how long a plain list may be. -/
import Derived.Test.YtfoaneckegkhcaaSeMath
import Derived.Test.YtfoaneckegkhcaaWiFall
namespace Go.Proofs.Ytfoaneckegkhcaa.Sa
open Go.Proofs.Ytfoaneckegkhcaa.Sp
open Go.Proofs.Ytfoaneckegkhcaa.Tk (GoodP Glo)
open Go.Proofs.Ytfoaneckegkhcaa.Wi (PlainOf Plain Low lowB lowB_false FallV fall_hit fall_miss idx_hit idx_miss fallP mem_fr mem_iff low_one low_nil)
open Go.Proofs.Ytfoaneckegkhcaa.Se (lows lows_mem lows_in Glo_lt Glo_mono Glo_in Glo0 Loc0 good0)

/-- Of a plain list each span begins behind the one ahead of it. -/
theorem plain_before {l : List S2} (h : Plain l) {i j : Nat} (hij : i < j) (hj : j < l.length) : tp l i < fr l j := by
  have p := List.pairwise_iff_getElem.1 h.2 i j (by omega) hj hij
  simpa [Sp.tp, fr, List.getD, List.getElem?_eq_getElem hj, List.getElem?_eq_getElem (show i < l.length by omega)] using p
theorem plain_span {l : List S2} (h : Plain l) {i : Nat} (hi : i < l.length) : fr l i < tp l i := h.1 _ (mem_fr hi)
theorem plain_len {l : List S2} (h : Plain l) (b : ∀ i, i < l.length → 0 ≤ fr l i ∧ fr l i ≤ 4294967296) : l.length < 1099511627776 := by
  have up : ∀ i : Nat, i < l.length → (i : Int) ≤ fr l i := by
    intro i
    induction i with
    | zero => exact fun hi => (b 0 hi).1
    | succ i ih =>
      intro hi
      have a := ih (by omega)
      have c := plain_before h (show i < i + 1 by omega) hi
      have d := plain_span h (show i < l.length by omega)
      omega
  by_cases h0 : 0 < l.length
  · have a := up (l.length - 1) (by omega)
    have c := (b (l.length - 1) (by omega)).2
    omega
  · omega
theorem lows_short {n : Nat} {A R : Nat → Int} {F : Nat → Bool} {m : Int} {l : List S2} (h : PlainOf (lows (Glo A R n) F m 11) l) : l.length < 1099511627776 :=
  plain_len h.1 fun i hi => by
    have a := lows_in h (Int.le_refl m) (Int.le_refl (m + 176)) i hi
    have c := Glo_in A R n m
    have d := Glo_in A R n (m + 176)
    have e := plain_span h.1 hi
    omega

/-- The line falls first where it is low first. -/
theorem fall_first {L x : List S2} {f t T : Int} (hx : PlainOf L x) (h : Low L T) (hn : ∀ u, u < T → ¬ Low L u) (h0 : f ≤ T) (h1 : T < t) : FallV x f t = (T, true) := by
  obtain ⟨s, hs, a, b⟩ := (hx.2 T).2 h
  have at_ : ∀ i, i < x.length → T ≤ fr x i := fun i hi => by
    rcases Wi.ltge (fr x i) T with c | c
    · exact absurd ((hx.2 _).1 ⟨_, mem_fr hi, Int.le_refl _, plain_span hx.1 hi⟩) (hn _ c)
    · exact c
  obtain ⟨i, hi, e1, e2⟩ := mem_iff.1 hs
  have e : fr x i = T := by have := at_ i hi; omega
  have hit := fall_hit (x := x) (f := f) (t := t) (i := i) (idx_hit hi (by simp [fallP, e, h0, h1]) fun j hj => by
    have c := plain_before hx.1 hj hi
    have d := plain_span hx.1 (show j < x.length by omega)
    have k := at_ j (by omega)
    omega)
  rw [hit, e]
theorem fall_none {L x : List S2} {f t : Int} (hx : PlainOf L x) (h : ∀ u, ¬ Low L u) : FallV x f t = (0, false) :=
  fall_miss (idx_miss fun _ hj => absurd ((hx.2 _).1 ⟨_, mem_fr hj, Int.le_refl _, plain_span hx.1 hj⟩) (h _))

end Go.Proofs.Ytfoaneckegkhcaa.Sa
