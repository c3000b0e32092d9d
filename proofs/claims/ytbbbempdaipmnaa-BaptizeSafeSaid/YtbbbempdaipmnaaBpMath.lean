/- Layer 18's mathematics: who answers; the half search; the rounds that are lost; names found one by one. -/
import Derived.Test.YtbbbempdaipmnaaNmMath
namespace Go.Proofs.Ytbbbempdaipmnaa.Bp
open Go.Proofs.Ytbbbempdaipmnaa.Nm (S zS sa sa_get sa_set mem_sa Gd okN bad okP gd_of hs hs_iff fr frF frF_some ls ls_spec cn cn_set cn_le)

def top : Int := 18446744073709551615
/-- Who has no name has no greater long name than there is room for. -/
def Low (l : List S) : Prop := ∀ i, i < l.length → 0 ≤ (sa l i).1 ∧ (sa l i).1 ≤ top

/-! ### who answers -/
def ans (l : List S) (c : Int) : Bool := l.any fun x => decide (x.2 = 0 ∧ x.1 ≤ c)
theorem ans_iff {l : List S} {c : Int} : ans l c = true ↔ ∃ i, i < l.length ∧ (sa l i).2 = 0 ∧ (sa l i).1 ≤ c := by
  unfold ans
  rw [List.any_eq_true]
  constructor
  · rintro ⟨x, hx, e⟩
    obtain ⟨i, hi, rfl⟩ := mem_sa.1 hx
    exact ⟨i, hi, by simpa using e⟩
  · rintro ⟨i, hi, e⟩
    exact ⟨_, mem_sa.2 ⟨i, hi, rfl⟩, by simpa using e⟩
theorem ans_no {l : List S} {c : Int} : ans l c = false ↔ ∀ i, i < l.length → (sa l i).2 = 0 → c < (sa l i).1 := by
  rw [Bool.eq_false_iff, Ne, ans_iff]
  constructor
  · intro h i hi h0
    exact Int.not_le.1 fun g => h ⟨i, hi, h0, g⟩
  · rintro h ⟨i, hi, h0, g⟩
    have := h i hi h0
    omega
def hd (l : List S) (p : Int) : Bool := l.any fun x => decide (x.2 = 0 ∧ x.1 = p)
theorem hd_iff {l : List S} {p : Int} : hd l p = true ↔ ∃ i, i < l.length ∧ (sa l i).2 = 0 ∧ (sa l i).1 = p := by
  unfold hd
  rw [List.any_eq_true]
  constructor
  · rintro ⟨x, hx, e⟩
    obtain ⟨i, hi, rfl⟩ := mem_sa.1 hx
    exact ⟨i, hi, by simpa using e⟩
  · rintro ⟨i, hi, e⟩
    exact ⟨_, mem_sa.2 ⟨i, hi, rfl⟩, by simpa using e⟩
theorem hd_no {l : List S} {p : Int} : hd l p = false ↔ ∀ i, i < l.length → ¬ ((sa l i).2 = 0 ∧ (sa l i).1 = p) := by
  rw [Bool.eq_false_iff, Ne, hd_iff]
  constructor
  · intro h i hi g
    exact h ⟨i, hi, g⟩
  · rintro h ⟨i, hi, g⟩
    exact h i hi g

/-! ### what is lost -/
def gon (L : List Bool) (i : Nat) : Bool := L.getD i false
theorem gon_off {L : List Bool} {i : Nat} (h : L.length ≤ i) : gon L i = false := by
  unfold gon
  rw [List.getD_eq_getElem?_getD, List.getElem?_eq_none h]
  rfl
theorem gon_drop (L : List Bool) (r i : Nat) : gon (L.drop r) i = gon L (r + i) := by
  unfold gon
  rw [List.getD_eq_getElem?_getD, List.getD_eq_getElem?_getD, List.getElem?_drop]

/-! ### the half search -/
def mid (a b : Int) : Int := (a + b) / 2
def nxt (l : List S) (g : Bool) (s : Int × Int) : Int × Int :=
  if ans l (mid s.1 s.2) = true ∧ g = false then (s.1, mid s.1 s.2) else if mid s.1 s.2 = top then s else (mid s.1 s.2 + 1, s.2)
def sK (l : List S) (L : List Bool) (r : Nat) : Nat → Int × Int
  | 0 => (0, top)
  | k + 1 => nxt l (gon L (r + (k + 1))) (sK l L r k)
theorem nxt_yes {l : List S} {s : Int × Int} (h : ans l (mid s.1 s.2) = true) : nxt l false s = (s.1, mid s.1 s.2) := if_pos ⟨h, rfl⟩
theorem nxt_no {l : List S} {g : Bool} {s : Int × Int} (h : ¬ (ans l (mid s.1 s.2) = true ∧ g = false)) (h2 : mid s.1 s.2 ≠ top) : nxt l g s = (mid s.1 s.2 + 1, s.2) := by unfold nxt; rw [if_neg h, if_neg h2]
theorem nxt_top {l : List S} {g : Bool} {s : Int × Int} (h : ¬ (ans l (mid s.1 s.2) = true ∧ g = false)) (h2 : mid s.1 s.2 = top) : nxt l g s = s := by unfold nxt; rw [if_neg h, if_pos h2]
structure In (s : Int × Int) : Prop where
  lo : 0 ≤ s.1
  lt : s.1 ≤ top
  hi : 0 ≤ s.2
  ht : s.2 ≤ top
  le : s.1 ≤ s.2 + 1
theorem In.mid {s : Int × Int} (h : In s) : 0 ≤ mid s.1 s.2 ∧ mid s.1 s.2 ≤ top ∧ s.1 ≤ mid s.1 s.2 + 1 ∧ mid s.1 s.2 ≤ s.2 := by
  obtain ⟨h1, h2, h3, h4, h5⟩ := h
  unfold Bp.mid
  unfold top at *
  omega
theorem In.nxt {l : List S} {g : Bool} {s : Int × Int} (h : In s) : In (nxt l g s) := by
  obtain ⟨m1, m2, m3, m4⟩ := h.mid
  obtain ⟨h1, h2, h3, h4, h5⟩ := h
  unfold Bp.nxt
  split
  · exact ⟨h1, h2, m1, m2, m3⟩
  · split
    · exact ⟨h1, h2, h3, h4, h5⟩
    · exact ⟨by show 0 ≤ Bp.mid s.1 s.2 + 1; omega, by show Bp.mid s.1 s.2 + 1 ≤ top; omega, h3, h4, by show Bp.mid s.1 s.2 + 1 ≤ s.2 + 1; omega⟩
theorem sK_in (l : List S) (L : List Bool) (r : Nat) : ∀ k, In (sK l L r k)
  | 0 => ⟨(by decide : (0 : Int) ≤ 0), (by decide : (0 : Int) ≤ top), (by decide : 0 ≤ top), (by decide : top ≤ top), (by decide : (0 : Int) ≤ top + 1)⟩
  | k + 1 => (sK_in l L r k).nxt
/-- What is halved: whichever of the two is greater. -/
theorem half_eq {a b : Int} : (if b < a then b + (a - b) / 2 else a + (b - a) / 2) = mid a b := by
  unfold mid
  split <;> omega
def off (l : List S) (L : List Bool) (r : Nat) : Bool := !ans l top || gon L r
def fd (l : List S) (L : List Bool) (r : Nat) : Bool := hd l (sK l L r 64).2 && !gon L (r + 65)
def sB (l : List S) (L : List Bool) (r : Nat) : Bool := !off l L r && fd l L r
def sN (l : List S) (L : List Bool) (r : Nat) : Nat := if off l L r = true then 1 else 66
def sP (l : List S) (L : List Bool) (r : Nat) : Int := if sB l L r = true then (sK l L r 64).2 else 0
theorem s_off {l : List S} {L : List Bool} {r : Nat} (h : off l L r = true) : sB l L r = false ∧ sN l L r = 1 ∧ sP l L r = 0 := by
  have e : sB l L r = false := by unfold sB; rw [h]; rfl
  exact ⟨e, if_pos h, by unfold sP; rw [e]; rfl⟩
theorem s_yes {l : List S} {L : List Bool} {r : Nat} (h : off l L r = false) (h2 : fd l L r = true) : sB l L r = true ∧ sN l L r = 66 ∧ sP l L r = (sK l L r 64).2 := by
  have e : sB l L r = true := by unfold sB; rw [h, h2]; rfl
  exact ⟨e, by unfold sN; rw [h]; rfl, by unfold sP; rw [e]; rfl⟩
theorem s_no {l : List S} {L : List Bool} {r : Nat} (h : off l L r = false) (h2 : fd l L r = false) : sB l L r = false ∧ sN l L r = 66 ∧ sP l L r = 0 := by
  have e : sB l L r = false := by unfold sB; rw [h, h2]; rfl
  exact ⟨e, by unfold sN; rw [h]; rfl, by unfold sP; rw [e]; rfl⟩
theorem s_found {l : List S} {L : List Bool} {r : Nat} (h : sB l L r = true) : sN l L r = 66 ∧ ∃ i, i < l.length ∧ (sa l i).2 = 0 ∧ (sa l i).1 = sP l L r := by
  unfold sB at h
  rw [Bool.and_eq_true, Bool.not_eq_true'] at h
  obtain ⟨h1, h2⟩ := h
  obtain ⟨_, e2, e3⟩ := s_yes h1 h2
  unfold fd at h2
  rw [Bool.and_eq_true] at h2
  exact ⟨e2, by rw [e3]; exact hd_iff.1 h2.1⟩
theorem s_many (l : List S) (L : List Bool) (r : Nat) : sN l L r = 1 ∨ sN l L r = 66 := by
  unfold sN
  split
  · exact .inl rfl
  · exact .inr rfl
theorem s_one {l : List S} {L : List Bool} {r : Nat} (h : sN l L r = 1) : ans l top = false ∨ gon L r = true := by
  unfold sN at h
  cases e : off l L r with
  | false => rw [e] at h; simp at h
  | true =>
    unfold off at e
    rw [Bool.or_eq_true, Bool.not_eq_true'] at e
    exact e
/-- Behind all that is lost the least one is found. -/
theorem sK_least {l : List S} {L : List Bool} {r : Nat} (hl : Low l) (hg : ∀ i, r ≤ i → gon L i = false) (ha : ans l top = true) : ∀ k, k ≤ 64 →
    ans l (sK l L r k).2 = true ∧ (∀ c, c < (sK l L r k).1 → ans l c = false) ∧ (sK l L r k).1 ≤ (sK l L r k).2 ∧ (sK l L r k).2 - (sK l L r k).1 < (2 : Int) ^ (64 - k)
  | 0, _ => ⟨ha, fun c (hc : c < 0) => ans_no.2 fun i hi h0 => by
      have := (hl i hi).1
      omega, (by decide : (0 : Int) ≤ top), (by decide : top - 0 < (2 : Int) ^ 64)⟩
  | k + 1, hk => by
    obtain ⟨h1, h2, h3, h4⟩ := sK_least hl hg ha k (by omega)
    have hI := sK_in l L r k
    have e : sK l L r (k + 1) = nxt l false (sK l L r k) := by
      show nxt l (gon L (r + (k + 1))) _ = _
      rw [hg _ (by omega)]
    rw [e]
    have hp : (2 : Int) ^ (64 - k) = 2 * (2 : Int) ^ (64 - (k + 1)) := by
      rw [show 64 - k = (64 - (k + 1)) + 1 by omega, Int.pow_succ]
      omega
    rw [hp] at h4
    generalize (2 : Int) ^ (64 - (k + 1)) = P at *
    generalize sK l L r k = s at *
    obtain ⟨m1, m2, m3, m4⟩ := hI.mid
    have hm : mid s.1 s.2 = (s.1 + s.2) / 2 := rfl
    by_cases q : ans l (mid s.1 s.2) = true
    · rw [nxt_yes q]
      exact ⟨q, h2, by show s.1 ≤ mid s.1 s.2; omega, by show mid s.1 s.2 - s.1 < P; omega⟩
    · have hne : mid s.1 s.2 ≠ s.2 := fun g => by rw [g] at q; exact q h1
      have hnt : mid s.1 s.2 ≠ top := by have := hI.ht; omega
      rw [nxt_no (fun g => q g.1) hnt]
      refine ⟨h1, fun c hc => ?_, by show mid s.1 s.2 + 1 ≤ s.2; omega, by show s.2 - (mid s.1 s.2 + 1) < P; omega⟩
      have hc : c < mid s.1 s.2 + 1 := hc
      rw [Bool.not_eq_true] at q
      exact ans_no.2 fun i hi h0 => by have := ans_no.1 q i hi h0; omega

theorem s_least {l : List S} {L : List Bool} {r : Nat} (hl : Low l) (hg : ∀ i, r ≤ i → gon L i = false) (ha : ans l top = true) : sB l L r = true := by
  obtain ⟨h1, h2, h3, h4⟩ := sK_least hl hg ha 64 (Nat.le_refl _)
  have e : (sK l L r 64).1 = (sK l L r 64).2 := by
    rw [Nat.sub_self] at h4
    have : (2 : Int) ^ 0 = 1 := rfl
    omega
  rw [e] at h2
  have ho : off l L r = false := by unfold off; rw [ha, hg r (Nat.le_refl _)]; rfl
  have hf : fd l L r = true := by
    unfold fd
    rw [hg _ (by omega), Bool.not_false, Bool.and_true]
    obtain ⟨i, hi, h0, hle⟩ := ans_iff.1 h1
    refine hd_iff.2 ⟨i, hi, h0, ?_⟩
    have := ans_no.1 (h2 ((sK l L r 64).2 - 1) (by omega)) i hi h0
    omega
  exact (s_yes ho hf).1
/-- Somebody has no name just if somebody answers to all. -/
theorem ans_top {l : List S} (hl : Low l) : ans l top = true ↔ 0 < cn l := by
  rw [ans_iff]
  unfold cn
  rw [List.length_pos_iff_exists_mem]
  constructor
  · rintro ⟨i, hi, h0, _⟩
    exact ⟨_, List.mem_filter.2 ⟨mem_sa.2 ⟨i, hi, rfl⟩, by simpa using h0⟩⟩
  · rintro ⟨x, hx⟩
    obtain ⟨hx, h0⟩ := List.mem_filter.1 hx
    obtain ⟨i, hi, rfl⟩ := mem_sa.1 hx
    exact ⟨i, hi, by simpa using h0, (hl i hi).2⟩
theorem ls_some {l : List S} : 0 ≤ ls l ↔ 0 < cn l := by
  unfold cn
  rw [List.length_pos_iff_exists_mem]
  rcases ls_spec l with ⟨e, h⟩ | ⟨i, e, hi, h0, _⟩
  · rw [e]
    refine ⟨fun g => by omega, ?_⟩
    rintro ⟨x, hx⟩
    obtain ⟨hx, h0⟩ := List.mem_filter.1 hx
    obtain ⟨i, hi, rfl⟩ := mem_sa.1 hx
    exact absurd (by simpa using h0) (h i hi)
  · rw [e]
    exact ⟨fun _ => ⟨_, List.mem_filter.2 ⟨mem_sa.2 ⟨i, hi, rfl⟩, by simpa using h0⟩⟩, fun _ => by omega⟩

/-! ### one is named -/
def nmd (p n : Int) (x : S) : S := if x.1 = p then (x.1, n) else x
def nm (p n : Int) (c : List S) : List S := c.map (nmd p n)
theorem nm_len (p n : Int) (c : List S) : (nm p n c).length = c.length := List.length_map _
theorem nm_sa {p n : Int} {c : List S} {i : Nat} (hi : i < c.length) : sa (nm p n c) i = nmd p n (sa c i) := by
  have h2 : i < (nm p n c).length := by rw [nm_len]; exact hi
  have := sa_get h2
  unfold nm at this
  rw [List.getElem?_map, sa_get hi] at this
  exact (Option.some.inj this).symm
theorem nm_le {p n : Int} (hn : n ≠ 0) : ∀ c : List S, cn (nm p n c) ≤ cn c
  | [] => Nat.le_refl _
  | x :: r => by
    have ih := nm_le (p := p) hn r
    unfold cn nm at ih ⊢
    rw [List.map_cons, List.filter_cons, List.filter_cons]
    by_cases h : x.1 = p
    · have e : nmd p n x = (x.1, n) := if_pos h
      rw [e, if_neg (by simpa using hn)]
      split
      · simp only [List.length_cons]; omega
      · exact ih
    · have e : nmd p n x = x := if_neg h
      rw [e]
      split
      · simp only [List.length_cons]; omega
      · exact ih
theorem nm_lt {p n : Int} (hn : n ≠ 0) : ∀ {c : List S}, (∃ x ∈ c, x.2 = 0 ∧ x.1 = p) → cn (nm p n c) < cn c
  | [], h => by obtain ⟨x, hx, _⟩ := h; cases hx
  | x :: r, h => by
    have le := nm_le (p := p) hn r
    by_cases g : x.2 = 0 ∧ x.1 = p
    · unfold cn nm at le ⊢
      have e : nmd p n x = (x.1, n) := if_pos g.2
      rw [List.map_cons, List.filter_cons, List.filter_cons, e, if_neg (by simpa using hn), if_pos (by simpa using g.1)]
      simp only [List.length_cons]
      omega
    · have ih := nm_lt (p := p) hn (c := r) (by
        obtain ⟨y, hy, hy2⟩ := h
        rcases List.mem_cons.1 hy with rfl | hy
        · exact absurd hy2 g
        · exact ⟨y, hy, hy2⟩)
      unfold cn nm at ih ⊢
      rw [List.map_cons, List.filter_cons, List.filter_cons]
      by_cases h2 : x.1 = p
      · have e : nmd p n x = (x.1, n) := if_pos h2
        rw [e, if_neg (by simpa using hn)]
        split
        · simp only [List.length_cons]; omega
        · exact ih
      · have e : nmd p n x = x := if_neg h2
        rw [e]
        split
        · simp only [List.length_cons]; omega
        · exact ih
theorem Low.nm {p n : Int} {c : List S} (h : Low c) : Low (nm p n c) := fun i hi => by
  rw [nm_len] at hi
  rw [nm_sa hi]
  unfold nmd
  split
  · exact h i hi
  · exact h i hi

/-- What has come of l so far. -/
structure Kb (l c : List S) : Prop where
  len : c.length = l.length
  gd : Gd c
  phys : ∀ i, i < l.length → (sa c i).1 = (sa l i).1
  named : ∀ i, i < l.length → 0 < (sa l i).2 → (sa c i).2 = (sa l i).2
theorem Kb.start {l : List S} (h : Gd l) : Kb l l := ⟨rfl, h, fun _ _ => rfl, fun _ _ _ => rfl⟩
theorem Kb.step {l c : List S} (h : Kb l c) {most p : Int} (hf : 0 < fr c most) (hp : ∃ i, i < c.length ∧ (sa c i).2 = 0 ∧ (sa c i).1 = p) : Kb l (nm p (fr c most) c) := by
  obtain ⟨i, hi, h0, hpi⟩ := hp
  obtain ⟨f1, f2, f3, f4, _⟩ := frF_some (l := c) (most := most) (f := 254) (n := 1) (by omega) hf
  change hs c (fr c most) = false at f4
  change fr c most < 1 + 254 at f2
  generalize fr c most = n at *
  have new : ∀ j, j < c.length → (sa c j).2 ≠ (n : Int) := fun j hj e => by
    have := hs_iff.2 ⟨j, hj, e⟩
    rw [f4] at this
    cases this
  have at_i : sa (nm p n c) i = ((sa c i).1, (n : Int)) := by rw [nm_sa hi]; exact if_pos hpi
  have off : ∀ j, j < c.length → j ≠ i → sa (nm p n c) j = sa c j := fun j hj ne => by
    rw [nm_sa hj]
    exact if_neg fun e => ne (h.gd.phys hj hi (e.trans hpi.symm))
  have ph : ∀ j, j < c.length → (sa (nm p n c) j).1 = (sa c j).1 := fun j hj => by
    by_cases e : j = i
    · subst e; rw [at_i]
    · rw [off j hj e]
  have sz := nm_len p n c
  have hlen := h.len
  have hg := h.gd
  have nm_i : (sa (nm p n c) i).2 = (n : Int) := by rw [at_i]
  generalize nm p n c = c' at *
  refine ⟨by omega, gd_of (by have := hg.len; omega) (fun j hj => ?_) (fun j k hj hk e => ?_) (fun j k hj hk e q => ?_), fun j hj => (ph j (by omega)).trans (h.phys j hj), fun j hj q => ?_⟩
  · by_cases e : j = i
    · subst e; unfold okN; omega
    · rw [off j (by omega) e]; exact hg.num (by omega)
  · rw [ph j (by omega), ph k (by omega)] at e
    exact hg.phys (by omega) (by omega) e
  · by_cases e1 : j = i
    · by_cases e2 : k = i
      · omega
      · subst e1
        rw [off k (by omega) e2, nm_i] at e
        exact absurd e.symm (new k (by omega))
    · by_cases e2 : k = i
      · subst e2
        rw [off j (by omega) e1, nm_i] at e
        exact absurd e (new j (by omega))
      · rw [off j (by omega) e1] at e q
        rw [off k (by omega) e2] at e
        exact hg.name (by omega) (by omega) e q
  · have ne : j ≠ i := fun g => by
      subst g
      have := h.named j hj q
      omega
    rw [off j (by omega) ne]
    exact h.named j hj q

/-! ### search by search -/
def rn (most : Int) (L : List Bool) : Nat → List S → Nat → List S × Nat × Int
  | 0, c, r => (c, r, 0)
  | f + 1, c, r =>
    if 0 ≤ ls c ∧ fr c most = 0 then (c, r, 11)
    else if sB c L r = false ∧ sN c L r = 1 ∧ gon L r = false then (c, r + 1, 0)
    else if sB c L r = true then rn most L f (nm (sP c L r) (fr c most) c) (r + 67) else rn most L f c (r + sN c L r)
/-- What is left to do. -/
def mu (L : List Bool) (c : List S) (r : Nat) : Nat := (L.length - r) + cn c
section
variable {most : Int} {L : List Bool} {f r : Nat} {c : List S}
theorem rn_full (h : 0 ≤ ls c ∧ fr c most = 0) : rn most L (f + 1) c r = (c, r, 11) := if_pos h
theorem rn_done (h : ¬ (0 ≤ ls c ∧ fr c most = 0)) (h2 : sB c L r = false ∧ sN c L r = 1 ∧ gon L r = false) : rn most L (f + 1) c r = (c, r + 1, 0) := by
  unfold rn
  rw [if_neg h, if_pos h2]
theorem rn_named (h : ¬ (0 ≤ ls c ∧ fr c most = 0)) (h2 : sB c L r = true) : rn most L (f + 1) c r = rn most L f (nm (sP c L r) (fr c most) c) (r + 67) := by
  rw [rn, if_neg h, if_neg (fun g => by rw [h2] at g; exact Bool.noConfusion g.1), if_pos h2]
theorem rn_again (h : ¬ (0 ≤ ls c ∧ fr c most = 0)) (h2 : ¬ (sB c L r = false ∧ sN c L r = 1 ∧ gon L r = false)) (h3 : sB c L r = false) : rn most L (f + 1) c r = rn most L f c (r + sN c L r) := by
  rw [rn, if_neg h, if_neg h2, if_neg (by rw [h3]; exact Bool.false_ne_true)]
/-- Who is found has no name yet, and there is one for it. -/
theorem named_pos (hl : Low c) (h : ¬ (0 ≤ ls c ∧ fr c most = 0)) (h2 : sB c L r = true) : 0 < fr c most ∧ ∃ i, i < c.length ∧ (sa c i).2 = 0 ∧ (sa c i).1 = sP c L r := by
  obtain ⟨_, i, hi, h0, hp⟩ := s_found h2
  refine ⟨Nat.pos_of_ne_zero fun e => h ⟨ls_some.2 ((ans_top hl).1 (ans_iff.2 ⟨i, hi, h0, (hl i hi).2⟩)), e⟩, i, hi, h0, hp⟩
theorem named_mu (hl : Low c) (h : ¬ (0 ≤ ls c ∧ fr c most = 0)) (h2 : sB c L r = true) : cn (nm (sP c L r) (fr c most) c) < cn c ∧ mu L (nm (sP c L r) (fr c most) c) (r + 67) < mu L c r := by
  obtain ⟨hf, i, hi, h0, hp⟩ := named_pos hl h h2
  have := nm_lt (p := sP c L r) (n := (fr c most : Int)) (by omega) ⟨_, mem_sa.2 ⟨i, hi, rfl⟩, h0, hp⟩
  unfold mu
  omega
theorem again_mu (hl : Low c) (h2 : ¬ (sB c L r = false ∧ sN c L r = 1 ∧ gon L r = false)) (h3 : sB c L r = false) : r < L.length ∧ mu L c (r + sN c L r) < mu L c r := by
  have hr : r < L.length := by
    refine Classical.byContradiction fun g => ?_
    have hg : ∀ i, r ≤ i → gon L i = false := fun i hi => gon_off (by omega)
    cases ha : ans c top with
    | true => rw [s_least hl hg ha] at h3; cases h3
    | false =>
      have ho : off c L r = true := by unfold off; rw [ha]; rfl
      exact h2 ⟨h3, (s_off ho).2.1, hg r (Nat.le_refl _)⟩
  refine ⟨hr, ?_⟩
  unfold mu
  rcases s_many c L r with e | e <;> omega
end
def rnL (l : List S) (most : Int) (L : List Bool) : List S := (rn most L (L.length + l.length + 1) l 0).1
def rnN (l : List S) (most : Int) (L : List Bool) : Nat := (rn most L (L.length + l.length + 1) l 0).2.1
def rnE (l : List S) (most : Int) (L : List Bool) : Int := (rn most L (L.length + l.length + 1) l 0).2.2
/-- All that BaptizeSafe says, from any state on. -/
theorem rn_safe {l : List S} {most : Int} {L : List Bool} (hl : Gd l) : ∀ {f r : Nat} {c : List S}, Low c → Kb l c → mu L c r < f → cn c ≤ cn l → r + 67 * cn c ≤ L.length + 66 + 67 * cn l →
    Kb l (rn most L f c r).1 ∧ (rn most L f c r).2.1 ≤ L.length + 67 * (cn l + 1) ∧ ((rn most L f c r).2.2 = 0 → cn (rn most L f c r).1 = 0)
  | 0, r, c, _, _, h, _, _ => absurd h (Nat.not_lt_zero _)
  | f + 1, r, c, hlo, hk, hm, hc, hb => by
    by_cases h : 0 ≤ ls c ∧ fr c most = 0
    · rw [rn_full h]
      exact ⟨hk, by show r ≤ _; omega, fun g => absurd (show (11 : Int) = 0 from g) (by decide)⟩
    · by_cases h2 : sB c L r = false ∧ sN c L r = 1 ∧ gon L r = false
      · rw [rn_done h h2]
        refine ⟨hk, by show r + 1 ≤ _; omega, fun _ => ?_⟩
        show cn c = 0
        have := s_one h2.2.1
        rw [h2.2.2] at this
        have ha := this.resolve_right (by decide)
        refine Nat.eq_zero_of_not_pos fun g => ?_
        rw [(ans_top hlo).2 g] at ha
        cases ha
      · cases h3 : sB c L r with
        | true =>
          rw [rn_named h h3]
          obtain ⟨hf, hi⟩ := named_pos hlo h h3
          obtain ⟨m1, m2⟩ := named_mu hlo h h3
          exact rn_safe hl hlo.nm (hk.step hf hi) (by omega) (by omega) (by omega)
        | false =>
          rw [rn_again h h2 h3]
          obtain ⟨m1, m2⟩ := again_mu hlo h2 h3
          exact rn_safe hl hlo hk (by omega) hc (by rcases s_many c L r with e | e <;> omega)
theorem run_safe {l : List S} (most : Int) (L : List Bool) (hg : Gd l) (hlo : Low l) : Kb l (rnL l most L) ∧ rnN l most L ≤ L.length + 67 * (cn l + 1) ∧ (rnE l most L = 0 → cn (rnL l most L) = 0) :=
  rn_safe hg hlo (Kb.start hg) (by unfold mu; have := cn_le l; omega) (Nat.le_refl _) (by omega)
/-- How many of the first k have none. -/
def cnK (l : List S) : Nat → Nat
  | 0 => 0
  | k + 1 => if (sa l k).2 = 0 then cnK l k + 1 else cnK l k
theorem cnK_all (l : List S) : cnK l l.length = cn l := by
  have h : ∀ k, k ≤ l.length → cnK l k = cn (l.take k) := fun k => by
    induction k with
    | zero => intro _; rfl
    | succ k ih =>
      intro hk
      have := ih (by omega)
      rw [List.take_add_one, sa_get (by omega : k < l.length)]
      unfold cn at this ⊢
      rw [List.filter_append, List.length_append, ← this]
      show (if (sa l k).2 = 0 then cnK l k + 1 else cnK l k) = _
      by_cases e : (sa l k).2 = 0
      · rw [if_pos e]; simp [e]
      · rw [if_neg e]; simp [e]
  rw [h _ (Nat.le_refl _), List.take_length]
theorem cn_zero {l : List S} (h : cn l = 0) {i : Nat} (hi : i < l.length) : (sa l i).2 ≠ 0 := fun e => by
  unfold cn at h
  have : sa l i ∈ l.filter fun x => decide (x.2 = 0) := List.mem_filter.2 ⟨mem_sa.2 ⟨i, hi, rfl⟩, by simpa using e⟩
  rw [List.length_eq_zero_iff.1 h] at this
  cases this

end Go.Proofs.Ytbbbempdaipmnaa.Bp
