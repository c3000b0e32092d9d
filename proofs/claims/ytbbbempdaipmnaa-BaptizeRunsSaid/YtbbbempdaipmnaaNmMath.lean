/- Layer 17's mathematics: lists of long names and short ones; which may be; which short name is free; who is least; names given one by one. -/
import Derived.Test.YtbbbempdaipmnaaChecked
namespace Go.Proofs.Ytbbbempdaipmnaa.Nm

/-- A slave: its long name, and its short one (0: none). -/
abbrev S := Int × Int
def zS : S := (0, 0)
def sa (l : List S) (i : Nat) : S := l.getD i zS
theorem sa_get {l : List S} {i : Nat} (h : i < l.length) : l[i]? = some (sa l i) := by
  unfold sa
  rw [List.getD_eq_getElem?_getD, List.getElem?_eq_getElem h]
  rfl
theorem sa_set {l : List S} {i : Nat} (h : i < l.length) (x : S) (j : Nat) : sa (l.set i x) j = if j = i then x else sa l j := by
  unfold sa
  rw [List.getD_eq_getElem?_getD, List.getD_eq_getElem?_getD, List.getElem?_set]
  by_cases e : i = j
  · subst e
    rw [if_pos rfl, if_pos rfl, if_pos h]
    rfl
  · rw [if_neg e, if_neg fun g => e g.symm]
theorem mem_sa {l : List S} {x : S} : x ∈ l ↔ ∃ i, i < l.length ∧ sa l i = x := by
  constructor
  · intro h
    obtain ⟨i, hi⟩ := List.getElem?_of_mem h
    have hl := (List.getElem?_eq_some_iff.1 hi).1
    refine ⟨i, hl, ?_⟩
    have := sa_get hl
    rw [hi] at this
    exact (Option.some.inj this).symm
  · rintro ⟨i, hi, rfl⟩
    exact List.mem_of_getElem? (sa_get hi)

/-! ### a list that may be -/
def bad (x y : S) : Prop := y.1 = x.1 ∨ (y.2 = x.2 ∧ 0 < x.2)
instance (x y : S) : Decidable (bad x y) := by unfold bad; infer_instance
def okN (x : S) : Prop := 0 ≤ x.2 ∧ x.2 ≤ 254
instance (x : S) : Decidable (okN x) := by unfold okN; infer_instance
/-- So far. -/
def okP (l : List S) (i : Nat) : Prop := ∀ k, k < i → okN (sa l k) ∧ ∀ j, j < k → ¬ bad (sa l k) (sa l j)
structure Gd (l : List S) : Prop where
  len : l.length ≤ 32
  ok : okP l l.length
noncomputable def gdB (l : List S) : Bool := @decide (Gd l) (Classical.propDecidable _)
theorem okP_zero (l : List S) : okP l 0 := fun k h => absurd h (Nat.not_lt_zero k)
theorem okP_next {l : List S} {i : Nat} (h : okP l i) (h1 : okN (sa l i)) (h2 : ∀ j, j < i → ¬ bad (sa l i) (sa l j)) : okP l (i + 1) := fun k hk => by
  by_cases e : k = i
  · subst e; exact ⟨h1, h2⟩
  · exact h k (by omega)
section
variable {l : List S} (h : Gd l)
include h
theorem Gd.num {i : Nat} (hi : i < l.length) : okN (sa l i) := (h.ok i hi).1
theorem Gd.phys {i j : Nat} (hi : i < l.length) (hj : j < l.length) (e : (sa l i).1 = (sa l j).1) : i = j := by
  rcases Nat.lt_trichotomy i j with g | g | g
  · exact absurd (.inl e) ((h.ok j hj).2 i g)
  · exact g
  · exact absurd (.inl e.symm) ((h.ok i hi).2 j g)
theorem Gd.name {i j : Nat} (hi : i < l.length) (hj : j < l.length) (e : (sa l i).2 = (sa l j).2) (h0 : 0 < (sa l i).2) : i = j := by
  rcases Nat.lt_trichotomy i j with g | g | g
  · exact absurd (.inr ⟨e, by omega⟩) ((h.ok j hj).2 i g)
  · exact g
  · exact absurd (.inr ⟨e.symm, h0⟩) ((h.ok i hi).2 j g)
end
theorem gd_of {l : List S} (h0 : l.length ≤ 32) (h1 : ∀ i, i < l.length → okN (sa l i)) (h2 : ∀ i j, i < l.length → j < l.length → (sa l i).1 = (sa l j).1 → i = j) (h3 : ∀ i j, i < l.length → j < l.length → (sa l i).2 = (sa l j).2 → 0 < (sa l i).2 → i = j) : Gd l :=
  ⟨h0, fun k hk => ⟨h1 k hk, fun j hj b => by
    rcases b with b | ⟨b, p⟩
    · have := h2 j k (by omega) hk b; omega
    · have := h3 k j hk (by omega) b.symm p; omega⟩⟩

/-! ### which is free -/
def hs (l : List S) (n : Int) : Bool := l.any fun x => decide (x.2 = n)
theorem hs_iff {l : List S} {n : Int} : hs l n = true ↔ ∃ i, i < l.length ∧ (sa l i).2 = n := by
  unfold hs
  rw [List.any_eq_true]
  constructor
  · rintro ⟨x, hx, e⟩
    obtain ⟨i, hi, rfl⟩ := mem_sa.1 hx
    exact ⟨i, hi, by simpa using e⟩
  · rintro ⟨i, hi, e⟩
    exact ⟨_, mem_sa.2 ⟨i, hi, rfl⟩, by simpa using e⟩
/-- The first one from n on, of so many; 0: none. -/
def frF (l : List S) (most : Int) : Nat → Nat → Nat
  | _, 0 => 0
  | n, f + 1 => if (n : Int) ≤ most then (if hs l n = true then frF l most (n + 1) f else n) else 0
def fr (l : List S) (most : Int) : Nat := frF l most 1 254
theorem frF_some {l : List S} {most : Int} : ∀ {f n : Nat}, 0 < n → 0 < frF l most n f → n ≤ frF l most n f ∧ frF l most n f < n + f ∧ (frF l most n f : Int) ≤ most ∧ hs l (frF l most n f) = false ∧ ∀ m : Nat, n ≤ m → m < frF l most n f → hs l m = true
  | 0, n, _, h => by simp [frF] at h
  | f + 1, n, h0, h => by
    unfold frF at h ⊢
    by_cases hm : (n : Int) ≤ most
    · rw [if_pos hm] at h ⊢
      cases hh : hs l n with
      | true =>
        rw [hh, if_pos rfl] at h
        rw [if_pos rfl]
        obtain ⟨a, b, c, d, e⟩ := frF_some (f := f) (n := n + 1) (by omega) h
        refine ⟨by omega, by omega, c, d, fun m h1 h2 => ?_⟩
        by_cases g : m = n
        · subst g; exact hh
        · exact e m (by omega) h2
      | false =>
        rw [if_neg (by decide)]
        exact ⟨Nat.le_refl _, by omega, hm, hh, fun m h1 h2 => by omega⟩
    · rw [if_neg hm] at h
      omega
theorem frF_none {l : List S} {most : Int} : ∀ {f n : Nat}, 0 < n → frF l most n f = 0 → ∀ m : Nat, n ≤ m → m < n + f → (m : Int) ≤ most → hs l m = true
  | 0, n, _, _ => fun m h1 h2 => by omega
  | f + 1, n, h0, h => fun m h1 h2 h3 => by
    unfold frF at h
    by_cases hm : (n : Int) ≤ most
    · rw [if_pos hm] at h
      cases hh : hs l n with
      | true =>
        rw [hh, if_pos rfl] at h
        by_cases g : m = n
        · subst g; exact hh
        · exact frF_none (f := f) (n := n + 1) (by omega) h m (by omega) (by omega) h3
      | false =>
        rw [hh, if_neg (by decide)] at h
        omega
    · omega
/-- Of 64 names one is free, if there are fewer slaves. -/
theorem fr_free {l : List S} {most : Int} (hl : l.length ≤ 32) (hm : 64 ≤ most) : 0 < fr l most := by
  refine Nat.pos_of_ne_zero fun e => ?_
  have all := frF_none (l := l) (most := most) (f := 254) (n := 1) (by omega) e
  have sub : ((List.range' 1 64).map fun n : Nat => (n : Int)) ⊆ l.map (·.2) := fun x hx => by
    obtain ⟨n, hn, rfl⟩ := List.mem_map.1 hx
    have hn := List.mem_range'_1.1 hn
    obtain ⟨i, hi, e⟩ := hs_iff.1 (all n hn.1 (by omega) (by omega))
    exact List.mem_map.2 ⟨_, mem_sa.2 ⟨i, hi, rfl⟩, e⟩
  have nd : ((List.range' 1 64).map fun n : Nat => (n : Int)).Nodup := by decide +kernel
  have := nd.length_le_of_subset sub
  simp at this
  omega

/-! ### who is least -/
/-- Among the first k: its place; below 0: there is none. -/
def lsK (l : List S) : Nat → Int
  | 0 => -1
  | k + 1 => if (sa l k).2 = 0 ∧ (lsK l k < 0 ∨ (sa l k).1 < (sa l (lsK l k).toNat).1) then k else lsK l k
theorem lsK_spec (l : List S) : ∀ k, (lsK l k = -1 ∧ ∀ j, j < k → (sa l j).2 ≠ 0) ∨ ∃ i : Nat, lsK l k = i ∧ i < k ∧ (sa l i).2 = 0 ∧ ∀ j, j < k → (sa l j).2 = 0 → (sa l i).1 ≤ (sa l j).1
  | 0 => .inl ⟨rfl, fun j h => absurd h (Nat.not_lt_zero j)⟩
  | k + 1 => by
    unfold lsK
    rcases lsK_spec l k with ⟨e, h⟩ | ⟨i, e, hi, h0, h⟩
    · rw [e]
      by_cases hk : (sa l k).2 = 0
      · rw [if_pos ⟨hk, .inl (by decide)⟩]
        refine .inr ⟨k, rfl, by omega, hk, fun j hj h0 => ?_⟩
        by_cases g : j = k
        · subst g; exact Int.le_refl _
        · exact absurd h0 (h j (by omega))
      · rw [if_neg fun g => hk g.1]
        refine .inl ⟨rfl, fun j hj => ?_⟩
        by_cases g : j = k
        · subst g; exact hk
        · exact h j (by omega)
    · rw [e]
      by_cases hk : (sa l k).2 = 0 ∧ ((i : Int) < 0 ∨ (sa l k).1 < (sa l (i : Int).toNat).1)
      · rw [if_pos hk]
        have hlt : (sa l k).1 < (sa l i).1 := by
          rcases hk.2 with g | g
          · omega
          · simpa using g
        refine .inr ⟨k, rfl, by omega, hk.1, fun j hj g0 => ?_⟩
        by_cases g : j = k
        · subst g; exact Int.le_refl _
        · have := h j (by omega) g0; omega
      · rw [if_neg hk]
        refine .inr ⟨i, rfl, by omega, h0, fun j hj g0 => ?_⟩
        by_cases g : j = k
        · subst g
          have : ¬ (sa l j).1 < (sa l i).1 := fun q => hk ⟨g0, .inr (by simpa using q)⟩
          omega
        · exact h j (by omega) g0
def ls (l : List S) : Int := lsK l l.length

/-! ### names given one by one -/
def asg : Nat → List S → Int → List S × Int
  | 0, l, _ => (l, 0)
  | f + 1, l, most => if ls l < 0 then (l, 0) else if fr l most = 0 then (l, 11) else asg f (l.set (ls l).toNat ((sa l (ls l).toNat).1, (fr l most : Int))) most
/-- How many have none. -/
def cn (l : List S) : Nat := (l.filter fun x => decide (x.2 = 0)).length
/-- What has come of l so far. -/
structure Kp (l c : List S) : Prop where
  gl : Gd l
  len : c.length = l.length
  gd : Gd c
  phys : ∀ i, i < l.length → (sa c i).1 = (sa l i).1
  named : ∀ i, i < l.length → 0 < (sa l i).2 → (sa c i).2 = (sa l i).2
  below : ∀ i, i < l.length → (sa l i).2 = 0 → ∀ m : Nat, 0 < m → (m : Int) ≤ (sa c i).2 → hs c m = true
  order : ∀ i k, i < l.length → k < l.length → (sa l i).2 = 0 → (sa l k).2 = 0 → 0 < (sa c i).2 → (sa l k).1 < (sa l i).1 → 0 < (sa c k).2 ∧ (sa c k).2 < (sa c i).2
theorem Kp.start {l : List S} (h : Gd l) : Kp l l :=
  ⟨h, rfl, h, fun _ _ => rfl, fun _ _ _ => rfl, fun i hi e m h0 h1 => by omega, fun i k _ _ e _ h0 => by omega⟩
theorem Kp.step {l c : List S} (h : Kp l c) {most : Int} {i : Nat} (hi : i < c.length) (h0 : (sa c i).2 = 0) (hl : ∀ j, j < c.length → (sa c j).2 = 0 → (sa c i).1 ≤ (sa c j).1) (hf : 0 < fr c most) :
    Kp l (c.set i ((sa c i).1, (fr c most : Int))) := by
  obtain ⟨f1, f2, f3, f4, f5⟩ := frF_some (l := c) (most := most) (f := 254) (n := 1) (by omega) hf
  change hs c (fr c most) = false at f4
  change ∀ m : Nat, 1 ≤ m → m < fr c most → hs c m = true at f5
  change fr c most < 1 + 254 at f2
  generalize fr c most = n at *
  have hlen := h.len
  have st := fun j => sa_set hi ((sa c i).1, (n : Int)) j
  have sz : (c.set i ((sa c i).1, (n : Int))).length = c.length := List.length_set
  have hli : (sa l i).2 = 0 := by
    have := (h.gl.num (i := i) (by omega)).1
    refine Classical.byContradiction fun e => ?_
    have := h.named i (by omega) (by omega)
    omega
  have at_i : sa (c.set i ((sa c i).1, (n : Int))) i = ((sa c i).1, (n : Int)) := by rw [st, if_pos rfl]
  have off : ∀ j, j ≠ i → sa (c.set i ((sa c i).1, (n : Int))) j = sa c j := fun j e => by rw [st, if_neg e]
  have ph : ∀ j, (sa (c.set i ((sa c i).1, (n : Int))) j).1 = (sa c j).1 := fun j => by
    by_cases e : j = i
    · subst e; rw [at_i]
    · rw [off j e]
  have mono : ∀ m : Nat, 0 < m → hs c m = true → hs (c.set i ((sa c i).1, (n : Int))) m = true := fun m hm q => by
    obtain ⟨j, hj, e⟩ := hs_iff.1 q
    have ne : j ≠ i := fun g => by subst g; omega
    exact hs_iff.2 ⟨j, by omega, by rw [off j ne]; exact e⟩
  have new : ∀ j, j < c.length → (sa c j).2 ≠ (n : Int) := fun j hj e => by
    have := hs_iff.2 ⟨j, hj, e⟩
    rw [f4] at this
    cases this
  generalize c.set i ((sa c i).1, (n : Int)) = c' at *
  have nm_i : (sa c' i).2 = (n : Int) := by rw [at_i]
  refine ⟨h.gl, by omega, gd_of (by have := h.gd.len; omega) (fun j hj => ?_) (fun j k hj hk e => ?_) (fun j k hj hk e p => ?_), fun j hj => (ph j).trans (h.phys j hj), fun j hj p => ?_, fun j hj e m hm hle => ?_, fun a k ha hk ea ek p lt => ?_⟩
  · by_cases e : j = i
    · subst e; unfold okN; omega
    · rw [off j e]; exact h.gd.num (by omega)
  · rw [ph, ph] at e
    exact h.gd.phys (by omega) (by omega) e
  · by_cases e1 : j = i
    · by_cases e2 : k = i
      · omega
      · subst e1
        rw [off k e2, nm_i] at e
        exact absurd e.symm (new k (by omega))
    · by_cases e2 : k = i
      · subst e2
        rw [off j e1, nm_i] at e
        exact absurd e (new j (by omega))
      · rw [off j e1] at e p
        rw [off k e2] at e
        exact h.gd.name (by omega) (by omega) e p
  · have ne : j ≠ i := fun g => by subst g; omega
    rw [off j ne]
    exact h.named j hj p
  · by_cases g : j = i
    · subst g
      rw [nm_i] at hle
      by_cases q : m = n
      · subst q
        exact hs_iff.2 ⟨j, by omega, nm_i⟩
      · exact mono m hm (f5 m (by omega) (by omega))
    · rw [off j g] at hle
      exact mono m hm (h.below j hj e m hm hle)
  · by_cases e1 : a = i
    · subst e1
      have ne : k ≠ a := fun g => by subst g; omega
      rw [nm_i, off k ne]
      have hk0 := (h.gd.num (i := k) (by omega)).1
      have p1 := h.phys a ha
      have p2 := h.phys k hk
      have c0 : (sa c k).2 ≠ 0 := fun g => by have := hl k (by omega) g; omega
      refine ⟨by omega, ?_⟩
      refine Int.not_le.1 fun g => ?_
      have := h.below k hk ek n hf g
      rw [f4] at this
      cases this
    · rw [off a e1] at p ⊢
      by_cases e2 : k = i
      · subst e2
        have := h.order a k ha hk ea ek p lt
        omega
      · rw [off k e2]
        exact h.order a k ha hk ea ek p lt
/-- Who is least, and where. -/
theorem ls_spec (l : List S) : (ls l = -1 ∧ ∀ j, j < l.length → (sa l j).2 ≠ 0) ∨ ∃ i : Nat, ls l = i ∧ i < l.length ∧ (sa l i).2 = 0 ∧ ∀ j, j < l.length → (sa l j).2 = 0 → (sa l i).1 ≤ (sa l j).1 := lsK_spec l l.length
theorem asg_next {f : Nat} {c : List S} {most : Int} {i : Nat} (h : ls c = i) (h2 : 0 < fr c most) : asg (f + 1) c most = asg f (c.set i ((sa c i).1, (fr c most : Int))) most := by
  show (if ls c < 0 then (c, (0 : Int)) else if fr c most = 0 then (c, 11) else asg f (c.set (ls c).toNat ((sa c (ls c).toNat).1, (fr c most : Int))) most) = _
  rw [h, if_neg (by omega), if_neg (by omega)]
  simp
theorem asg_done {f : Nat} {c : List S} {most : Int} (h : ls c < 0) : asg (f + 1) c most = (c, 0) := if_pos h
theorem asg_full {f : Nat} {c : List S} {most : Int} (h : ¬ ls c < 0) (h2 : fr c most = 0) : asg (f + 1) c most = (c, 11) := by
  show (if ls c < 0 then (c, (0 : Int)) else if fr c most = 0 then (c, 11) else _) = _
  rw [if_neg h, if_pos h2]
theorem asg_kp {l : List S} {most : Int} : ∀ {f : Nat} {c : List S}, Kp l c → Kp l (asg f c most).1
  | 0, _, h => h
  | f + 1, c, h => by
    rcases ls_spec c with ⟨e, _⟩ | ⟨i, e, hi, h0, hl⟩
    · rw [asg_done (by omega)]
      exact h
    · by_cases hf : fr c most = 0
      · rw [asg_full (by omega) hf]
        exact h
      · rw [asg_next e (by omega)]
        exact asg_kp (h.step hi h0 hl (by omega))
theorem cn_set {c : List S} {i : Nat} {x : S} (hi : i < c.length) (h0 : (sa c i).2 = 0) (hx : x.2 ≠ 0) : cn (c.set i x) + 1 = cn c := by
  unfold cn
  induction c generalizing i with
  | nil => simp at hi
  | cons y r ih =>
    cases i with
    | zero =>
      have hy : y.2 = 0 := h0
      simp [hy, hx]
    | succ i =>
      have := ih (i := i) (by simpa using hi) h0
      rw [List.set_cons_succ, List.filter_cons, List.filter_cons]
      split
      · simp only [List.length_cons]; omega
      · exact this
theorem asg_named {most : Int} : ∀ {f : Nat} {c : List S}, cn c < f → (asg f c most).2 = 0 → ∀ j, j < (asg f c most).1.length → (sa (asg f c most).1 j).2 ≠ 0
  | 0, _, h, _ => by omega
  | f + 1, c, h, he => by
    rcases ls_spec c with ⟨e, hn⟩ | ⟨i, e, hi, h0, hl⟩
    · rw [asg_done (by omega)]
      exact hn
    · by_cases hf : fr c most = 0
      · rw [asg_full (by omega) hf] at he
        exact absurd he (by simp)
      · rw [asg_next e (by omega)] at he ⊢
        have := cn_set (x := ((sa c i).1, (fr c most : Int))) hi h0 (by simp; omega)
        exact asg_named (by omega) he
theorem asg_most {most : Int} (hm : 64 ≤ most) : ∀ {f : Nat} {c : List S}, c.length ≤ 32 → (asg f c most).2 = 0
  | 0, _, _ => rfl
  | f + 1, c, h => by
    rcases ls_spec c with ⟨e, hn⟩ | ⟨i, e, hi, h0, hl⟩
    · rw [asg_done (by omega)]
    · have := fr_free h hm
      rw [asg_next e this]
      exact asg_most hm (by rw [List.length_set]; exact h)
theorem cn_le (c : List S) : cn c ≤ c.length := List.length_filter_le _ _

end Go.Proofs.Ytbbbempdaipmnaa.Nm
