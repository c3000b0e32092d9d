/- Plain mathematics of layer 7: the ticks at which a plain list's line falls from one on; what is counted from the first to the fifth of them; and that of the frame of round 0 it is what fits. -/
import Derived.Test.YtfoaneckegkhcaaSaMath
import Derived.Test.YtfoaneckegkhcaaUaMath
import Derived.Test.YtfoaneckegkhcaaSaFalls
namespace Go.Proofs.Ytfoaneckegkhcaa.Ba
open Go.Proofs.Ytfoaneckegkhcaa.Sp Go.Proofs.Ytfoaneckegkhcaa.Wi Go.Proofs.Ytfoaneckegkhcaa.Se Go.Proofs.Ytfoaneckegkhcaa.Sa
open Go.Proofs.Ytfoaneckegkhcaa.Tk (GoodP Glo Glo_is PP)
open Go.Proofs.Ytfoaneckegkhcaa.Ua (frm)

/-- The beginnings of a list's spans, from a tick on. -/
def starts (x : List S2) (f : Int) : List Int := (x.map (·.1)).filter fun t => decide (f ≤ t)
theorem split_at {x : List S2} {i : Nat} (hi : i < x.length) : x.map (·.1) = (x.take i).map (·.1) ++ fr x i :: (x.drop (i + 1)).map (·.1) := by
  have e : x = x.take i ++ x[i] :: x.drop (i + 1) := by rw [← List.drop_eq_getElem_cons hi, List.take_append_drop]
  have ef : fr x i = x[i].1 := by simp [fr, hi]
  conv => lhs; rw [e]
  rw [List.map_append, List.map_cons, ef]
theorem mem_take {x : List S2} {i : Nat} {t : Int} (h : t ∈ (x.take i).map (·.1)) : ∃ j, j < i ∧ j < x.length ∧ fr x j = t := by
  obtain ⟨s, hs, rfl⟩ := List.mem_map.1 h
  obtain ⟨j, hj, rfl⟩ := List.mem_iff_getElem.1 hs
  have hj' : j < min i x.length := by simpa using hj
  exact ⟨j, by omega, by omega, by simp [fr, show j < x.length by omega]⟩
theorem mem_drop {x : List S2} {i : Nat} {t : Int} (h : t ∈ (x.drop (i + 1)).map (·.1)) : ∃ j, i < j ∧ j < x.length ∧ fr x j = t := by
  obtain ⟨s, hs, rfl⟩ := List.mem_map.1 h
  obtain ⟨j, hj, rfl⟩ := List.mem_iff_getElem.1 hs
  have hj' : j < x.length - (i + 1) := by simpa using hj
  exact ⟨i + 1 + j, by omega, by omega, by simp [fr, show i + 1 + j < x.length by omega]⟩
theorem filter_none {L : List Int} {f : Int} (h : ∀ t ∈ L, t < f) : (L.filter fun t => decide (f ≤ t)) = [] :=
  List.filter_eq_nil_iff.2 fun t ht => by have := h t ht; simp; omega
theorem filter_all {L : List Int} {f : Int} (h : ∀ t ∈ L, f ≤ t) : (L.filter fun t => decide (f ≤ t)) = L :=
  List.filter_eq_self.2 fun t ht => by simpa using h t ht
/-- The first of them is where the line falls, and the others are those behind it. -/
theorem starts_hit {x : List S2} (hp : Plain x) {c : Int} {i : Nat} (hi : i < x.length) (h : c ≤ fr x i) (hn : ∀ j, j < i → fr x j < c) : starts x c = fr x i :: starts x (fr x i + 1) := by
  have a : ∀ t ∈ (x.take i).map (·.1), t < c := fun t ht => by obtain ⟨j, h1, _, rfl⟩ := mem_take ht; exact hn j h1
  have b : ∀ t ∈ (x.drop (i + 1)).map (·.1), fr x i + 1 ≤ t := fun t ht => by
    obtain ⟨j, h1, h2, rfl⟩ := mem_drop ht
    have := plain_before hp h1 h2
    have := plain_span hp hi
    omega
  have l1 := filter_none a
  have l2 := filter_all (f := c) fun t ht => by have := b t ht; omega
  have l3 := filter_none (f := fr x i + 1) fun t ht => by have := a t ht; omega
  have l4 := filter_all b
  unfold starts
  rw [split_at hi, List.filter_append, List.filter_append, List.filter_cons, List.filter_cons, l1, l2, l3, l4, if_pos (by simpa using h), if_neg (by simp; omega)]
  rfl
theorem starts_miss {x : List S2} {c : Int} (hn : ∀ j, j < x.length → fr x j < c) : starts x c = [] :=
  filter_none fun t ht => by
    obtain ⟨s, hs, rfl⟩ := List.mem_map.1 ht
    obtain ⟨j, hj, rfl⟩ := List.mem_iff_getElem.1 hs
    have := hn j hj
    simpa [fr, hj] using this
/-- The same, by what a fall is, with a bound that all lie ahead of. -/
theorem fall_starts {x : List S2} (hp : Plain x) {c b : Int} (hb : ∀ i, i < x.length → fr x i < b) : (∃ t, FallV x c b = (t, true) ∧ starts x c = t :: starts x (t + 1) ∧ c ≤ t ∧ t < b ∧ Low x t) ∨ (FallV x c b = (0, false) ∧ starts x c = []) := by
  rcases idx_cases (fallP c b) x with ⟨i, hi, hpi, hn, e⟩ | ⟨hn, e⟩
  · simp [fallP] at hpi
    refine .inl ⟨fr x i, fall_hit e, starts_hit hp hi hpi.1 fun j hj => ?_, hpi.1, hpi.2, _, mem_fr hi, Int.le_refl _, plain_span hp hi⟩
    have := hn j hj
    have := hb j (by omega)
    simp [fallP] at *
    omega
  · refine .inr ⟨fall_miss e, starts_miss fun j hj => ?_⟩
    have := hn j hj
    have := hb j hj
    simp [fallP] at *
    omega
theorem near_starts {l x : List S2} (hN : Near l) (hx : PlainOf l x) (i : Nat) (hi : i < x.length) : fr x i < 1099511627776 :=
  (hN.low ((hx.2 _).1 ⟨_, mem_fr hi, Int.le_refl _, plain_span hx.1 hi⟩)).2

/-- What is measured: of the plain list x. -/
noncomputable def MeasV (x : List S2) (A R : Nat → Int) (n : Nat) (f t : Int) : Int × Int :=
  if (FallV x f t).2 then (if 5 ≤ (starts x f).length then (Tk.Loc A R n ((starts x f).getD 4 0) - Tk.Loc A R n ((starts x f).getD 0 0), 0) else (0, 9)) else (0, 3)
theorem meas_none {x : List S2} {A R : Nat → Int} {n : Nat} {f t p : Int} (h : FallV x f t = (p, false)) : (0, 3) = MeasV x A R n f t := by unfold MeasV; rw [h]; rfl
theorem meas_few {x : List S2} {A R : Nat → Int} {n : Nat} {f t p : Int} (h : FallV x f t = (p, true)) (hs : ¬ 5 ≤ (starts x f).length) : (0, 9) = MeasV x A R n f t := by unfold MeasV; rw [h, if_neg hs]; rfl
theorem meas_yes {x : List S2} {A R : Nat → Int} {n : Nat} {f t p : Int} (h : FallV x f t = (p, true)) (hs : 5 ≤ (starts x f).length) : (Tk.Loc A R n ((starts x f).getD 4 0) - Tk.Loc A R n ((starts x f).getD 0 0), 0) = MeasV x A R n f t := by unfold MeasV; rw [h, if_pos hs]; rfl

theorem frm_85 (i : Nat) (h : i < 11) : frm 85 true i = decide (i % 2 = 1 ∨ i = 10) := by
  rcases (by omega : i = 0 ∨ i = 1 ∨ i = 2 ∨ i = 3 ∨ i = 4 ∨ i = 5 ∨ i = 6 ∨ i = 7 ∨ i = 8 ∨ i = 9 ∨ i = 10) with rfl | rfl | rfl | rfl | rfl | rfl | rfl | rfl | rfl | rfl | rfl <;> decide +kernel
/-- The spans of round 0's frame. -/
def five (g : Int → Int) (m : Int) : List S2 := [(g m, g (m + 16)), (g (m + 32), g (m + 48)), (g (m + 64), g (m + 80)), (g (m + 96), g (m + 112)), (g (m + 128), g (m + 144))]
theorem lows_five (g : Int → Int) (m : Int) : lows g (frm 85 true) m 11 = five g m := by
  have f : ∀ i, i < 11 → frm 85 true i = decide (i % 2 = 1 ∨ i = 10) := frm_85
  rw [lows_hi (by rw [f 10 (by omega)]; rfl), lows_hi (by rw [f 9 (by omega)]; rfl), lows_lo (by rw [f 8 (by omega)]; rfl), lows_hi (by rw [f 7 (by omega)]; rfl), lows_lo (by rw [f 6 (by omega)]; rfl), lows_hi (by rw [f 5 (by omega)]; rfl), lows_lo (by rw [f 4 (by omega)]; rfl), lows_hi (by rw [f 3 (by omega)]; rfl), lows_lo (by rw [f 2 (by omega)]; rfl), lows_hi (by rw [f 1 (by omega)]; rfl), lows_lo (by rw [f 0 (by omega)]; rfl)]
  simp only [lows, List.nil_append, List.cons_append, five]
  have e : ∀ k : Nat, m + 16 * ((2 * k : Nat) : Int) = m + 32 * k := fun k => by omega
  simp only [show m + 16 * ((0 : Nat) : Int) = m by omega, show m + 16 * ((2 : Nat) : Int) = m + 32 by omega, show m + 16 * ((4 : Nat) : Int) = m + 64 by omega, show m + 16 * ((6 : Nat) : Int) = m + 96 by omega, show m + 16 * ((8 : Nat) : Int) = m + 128 by omega,
    show m + 32 + 16 = m + 48 by omega, show m + 64 + 16 = m + 80 by omega, show m + 96 + 16 = m + 112 by omega, show m + 128 + 16 = m + 144 by omega]
theorem five_plain {n : Nat} {A R : Nat → Int} (g : GoodP n A R) {m : Int} (m0 : 0 ≤ m) (m1 : m ≤ 3000000000) : Plain (five (Glo A R n) m) := by
  have k : ∀ a b : Int, 0 ≤ a → a + 2 ≤ b → b ≤ 4000000000 → Glo A R n a < Glo A R n b := fun a b h0 h h1 => Glo_lt g h0 h h1
  have k0 := k m (m + 16) (by omega) (by omega) (by omega)
  have k1 := k (m + 16) (m + 32) (by omega) (by omega) (by omega)
  have k2 := k (m + 32) (m + 48) (by omega) (by omega) (by omega)
  have k3 := k (m + 48) (m + 64) (by omega) (by omega) (by omega)
  have k4 := k (m + 64) (m + 80) (by omega) (by omega) (by omega)
  have k5 := k (m + 80) (m + 96) (by omega) (by omega) (by omega)
  have k6 := k (m + 96) (m + 112) (by omega) (by omega) (by omega)
  have k7 := k (m + 112) (m + 128) (by omega) (by omega) (by omega)
  have k8 := k (m + 128) (m + 144) (by omega) (by omega) (by omega)
  refine ⟨fun s hs => ?_, ?_⟩
  · simp only [five, List.mem_cons, List.not_mem_nil, or_false] at hs
    rcases hs with rfl | rfl | rfl | rfl | rfl <;> assumption
  · simp only [five, List.pairwise_cons, List.mem_cons, List.not_mem_nil, or_false, forall_eq_or_imp, forall_eq, List.Pairwise.nil, and_true, false_implies, implies_true]
    omega
theorem starts_five {n : Nat} {A R : Nat → Int} {m : Int} : starts (five (Glo A R n) m) 0 = [Glo A R n m, Glo A R n (m + 32), Glo A R n (m + 64), Glo A R n (m + 96), Glo A R n (m + 128)] := by
  unfold starts
  refine filter_all fun t ht => ?_
  simp only [five, List.map_cons, List.map_nil, List.mem_cons, List.not_mem_nil, or_false] at ht
  rcases ht with rfl | rfl | rfl | rfl | rfl <;> exact (Glo_in A R n _).1

/-- What is measured of the frame of round 0 fits. -/
theorem fits {n n' : Nat} {A R A' R' : Nat → Int} (g : Sa.Calm n A R 10000) (g' : Sa.Calm n' A' R' 10000) {m : Int} (m0 : 0 ≤ m) (m1 : m ≤ 1073741824) :
    124 ≤ Tk.Loc A' R' n' (Glo A R n (m + 128)) - Tk.Loc A' R' n' (Glo A R n m) ∧ Tk.Loc A' R' n' (Glo A R n (m + 128)) - Tk.Loc A' R' n' (Glo A R n m) ≤ 132 := by
  have t := Glo_parts g m0 (by omega)
  have u := Glo_parts g (a := m + 128) (by omega) (by omega)
  have t0 := (Glo_is A R n m).lo
  have tu := Glo_mono (A := A) (R := R) (n := n) (show m ≤ m + 128 by omega)
  have u2 : Glo A R n (m + 128) ≤ 1100000000 := by
    have b := PP_span g (show 0 ≤ Glo A R n (m + 128) by omega)
    rw [Tk.PP_zero g.good] at b
    omega
  have b := PP_span g tu
  have b' := PP_span g' tu
  unfold Tk.Loc
  rw [Tk.clamp_id (by omega) (by omega), Tk.clamp_id (by omega) (by omega)]
  omega
theorem meas_five {n n' : Nat} {A R A' R' : Nat → Int} (g : Sa.Calm n A R 10000) {m : Int} (m0 : 0 ≤ m) (m1 : m ≤ 1073741824) {l x : List S2} (h : PlainOf (lows (Glo A R n) (frm 85 true) m 11) l) (hx : PlainOf l x) :
    MeasV x A' R' n' 0 2147483648 = (Tk.Loc A' R' n' (Glo A R n (m + 128)) - Tk.Loc A' R' n' (Glo A R n m), 0) := by
  have p := five_plain g.good m0 (by omega)
  have hx' : PlainOf (five (Glo A R n) m) x := by rw [← lows_five]; exact ⟨hx.1, fun t => (hx.2 t).trans (h.2 t)⟩
  have e : x = five (Glo A R n) m := hx'.one ⟨p, fun _ => Iff.rfl⟩
  have t2 : Glo A R n m < 2147483648 := by
    have t := Glo_parts g m0 (by omega)
    have b := PP_span g (show 0 ≤ Glo A R n m from (Glo_is A R n m).lo)
    rw [Tk.PP_zero g.good] at b
    omega
  have t0 := (Glo_in A R n m).1
  have f : FallV (five (Glo A R n) m) 0 2147483648 = (Glo A R n m, true) :=
    fall_hit (i := 0) (idx_hit (by simp [five]) (by show (decide (0 ≤ Glo A R n m) && decide (Glo A R n m < 2147483648)) = true; simp [t0, t2]) fun j hj => by omega)
  have s := starts_five (A := A) (R := R) (n := n) (m := m)
  rw [e]
  unfold MeasV
  rw [f, s]
  rfl

end Go.Proofs.Ytfoaneckegkhcaa.Ba
