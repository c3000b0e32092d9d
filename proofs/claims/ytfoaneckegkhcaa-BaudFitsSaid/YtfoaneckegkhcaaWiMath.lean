/- Lists of spans as plain mathematics: when one is low, what plain ones are, and that there is one plain list for one line. -/
import Derived.Test.YtfoaneckegkhcaaSpMem
namespace Go.Proofs.Ytfoaneckegkhcaa.Wi
open Go.Proofs.Ytfoaneckegkhcaa.Sp

theorem ltge (a b : Int) : a < b ∨ b ≤ a := by omega
def Low (l : List S2) (t : Int) : Prop := ∃ s ∈ l, s.1 ≤ t ∧ t < s.2
def inB (t : Int) (s : S2) : Bool := decide (s.1 ≤ t) && decide (t < s.2)
def lowB (l : List S2) (t : Int) : Bool := l.any (inB t)
theorem lowB_iff {l : List S2} {t : Int} : lowB l t = true ↔ Low l t := by
  simp [lowB, Low, inB, List.any_eq_true]
theorem lowB_false {l : List S2} {t : Int} : lowB l t = false ↔ ¬ Low l t := by
  rw [← lowB_iff]; simp
def Plain (l : List S2) : Prop := (∀ s ∈ l, s.1 < s.2) ∧ l.Pairwise (fun a b => a.2 < b.1)

theorem mem_fr {l : List S2} {i : Nat} (h : i < l.length) : (fr l i, tp l i) ∈ l := by
  have e : l.getD i (0, 0) = l[i] := by simp [h]
  show ((l.getD i (0, 0)).1, (l.getD i (0, 0)).2) ∈ l
  rw [e]
  exact List.getElem_mem h
theorem mem_iff {l : List S2} {s : S2} : s ∈ l ↔ ∃ i, i < l.length ∧ fr l i = s.1 ∧ tp l i = s.2 := by
  constructor
  · intro h
    obtain ⟨i, hi, e⟩ := List.getElem_of_mem h
    exact ⟨i, hi, by simp [fr, hi, e], by simp [tp, hi, e]⟩
  · rintro ⟨i, hi, e1, e2⟩
    have := mem_fr hi
    rw [e1, e2] at this
    exact this
theorem low_iff {l : List S2} {t : Int} : Low l t ↔ ∃ i, i < l.length ∧ fr l i ≤ t ∧ t < tp l i := by
  constructor
  · rintro ⟨s, hs, h⟩
    obtain ⟨i, hi, e1, e2⟩ := mem_iff.1 hs
    exact ⟨i, hi, by omega, by omega⟩
  · rintro ⟨i, hi, h⟩
    exact ⟨_, mem_fr hi, h⟩
theorem low_append {a b : List S2} {t : Int} : Low (a ++ b) t ↔ Low a t ∨ Low b t := by
  constructor
  · rintro ⟨s, hs, h⟩
    rcases List.mem_append.1 hs with h' | h'
    · exact .inl ⟨s, h', h⟩
    · exact .inr ⟨s, h', h⟩
  · rintro (⟨s, hs, h⟩ | ⟨s, hs, h⟩)
    · exact ⟨s, List.mem_append_left _ hs, h⟩
    · exact ⟨s, List.mem_append_right _ hs, h⟩
theorem low_nil {t : Int} : ¬ Low [] t := by rintro ⟨s, hs, _⟩; simp at hs
theorem low_cons {s : S2} {r : List S2} {t : Int} : Low (s :: r) t ↔ (s.1 ≤ t ∧ t < s.2) ∨ Low r t := by
  constructor
  · rintro ⟨x, hx, h⟩
    rcases List.mem_cons.1 hx with rfl | h'
    · exact .inl h
    · exact .inr ⟨x, h', h⟩
  · rintro (h | ⟨x, hx, h⟩)
    · exact ⟨s, List.mem_cons_self, h⟩
    · exact ⟨x, List.mem_cons_of_mem _ hx, h⟩
theorem low_one {s : S2} {t : Int} : Low [s] t ↔ s.1 ≤ t ∧ t < s.2 := by
  rw [low_cons]; exact ⟨fun h => h.resolve_right low_nil, .inl⟩

theorem plain_nil : Plain [] := ⟨fun s h => by simp at h, List.Pairwise.nil⟩
theorem plain_snoc {l : List S2} {s : S2} : Plain (l ++ [s]) ↔ Plain l ∧ s.1 < s.2 ∧ ∀ x ∈ l, x.2 < s.1 := by
  unfold Plain
  rw [List.pairwise_append]
  constructor
  · rintro ⟨h1, h2, _, h3⟩
    exact ⟨⟨fun x hx => h1 x (List.mem_append_left _ hx), h2⟩, h1 s (by simp), fun x hx => h3 x hx s (by simp)⟩
  · rintro ⟨⟨h1, h2⟩, h3, h4⟩
    refine ⟨fun x hx => ?_, h2, List.pairwise_singleton _ _, fun x hx y hy => ?_⟩
    · rcases List.mem_append.1 hx with h | h
      · exact h1 x h
      · simp at h; subst h; exact h3
    · simp at hy; subst hy; exact h4 x hx
theorem plain_cons {l : List S2} {s : S2} : Plain (s :: l) ↔ Plain l ∧ s.1 < s.2 ∧ ∀ x ∈ l, s.2 < x.1 := by
  unfold Plain
  rw [List.pairwise_cons]
  constructor
  · rintro ⟨h1, h2, h3⟩
    exact ⟨⟨fun x hx => h1 x (List.mem_cons_of_mem _ hx), h3⟩, h1 s List.mem_cons_self, h2⟩
  · rintro ⟨⟨h1, h2⟩, h3, h4⟩
    refine ⟨fun x hx => ?_, h4, h2⟩
    rcases List.mem_cons.1 hx with rfl | h
    · exact h3
    · exact h1 x h
theorem plain_not_to {l : List S2} (h : Plain l) : ∀ s ∈ l, ¬ Low l s.2 := by
  induction l with
  | nil => intro s hs; simp at hs
  | cons a r ih =>
    obtain ⟨hp, ha, hr⟩ := plain_cons.1 h
    intro s hs hl
    rw [low_cons] at hl
    rcases List.mem_cons.1 hs with rfl | hs
    · rcases hl with hl | ⟨x, hx, h1, h2⟩
      · omega
      · have := hr x hx; omega
    · rcases hl with hl | hl
      · have := hr s hs; have := hp.1 s hs; omega
      · exact ih hp s hs hl

/-- Two plain lists that are low at the same ticks are one. -/
theorem plain_one : ∀ {a b : List S2}, Plain a → Plain b → (∀ t, Low a t ↔ Low b t) → a = b
  | [], [], _, _, _ => rfl
  | [], s :: r, _, hb, h => by
    obtain ⟨_, h1, _⟩ := plain_cons.1 hb
    exact absurd ((h s.1).2 (low_cons.2 (.inl ⟨by omega, h1⟩))) low_nil
  | s :: r, [], ha, _, h => by
    obtain ⟨_, h1, _⟩ := plain_cons.1 ha
    exact absurd ((h s.1).1 (low_cons.2 (.inl ⟨by omega, h1⟩))) low_nil
  | s :: r, s' :: r', ha, hb, h => by
    obtain ⟨hr, h1, h2⟩ := plain_cons.1 ha
    obtain ⟨hr', h1', h2'⟩ := plain_cons.1 hb
    have lo : s'.1 ≤ s.1 := by
      obtain ⟨x, hx, hx1, _⟩ := (h s.1).1 (low_cons.2 (.inl ⟨by omega, h1⟩))
      rcases List.mem_cons.1 hx with rfl | hx
      · exact hx1
      · have := h2' x hx; omega
    have lo' : s.1 ≤ s'.1 := by
      obtain ⟨x, hx, hx1, _⟩ := (h s'.1).2 (low_cons.2 (.inl ⟨by omega, h1'⟩))
      rcases List.mem_cons.1 hx with rfl | hx
      · exact hx1
      · have := h2 x hx; omega
    have hi : s'.2 ≤ s.2 := by
      rcases ltge s.2 s'.2 with c | c
      · exact absurd ((h s.2).2 (low_cons.2 (.inl ⟨by omega, c⟩))) (plain_not_to ha s List.mem_cons_self)
      · exact c
    have hi' : s.2 ≤ s'.2 := by
      rcases ltge s'.2 s.2 with c | c
      · exact absurd ((h s'.2).1 (low_cons.2 (.inl ⟨by omega, c⟩))) (plain_not_to hb s' List.mem_cons_self)
      · exact c
    have e : s = s' := Prod.ext (by omega) (by omega)
    subst e
    have er : r = r' := plain_one hr hr' fun t => by
      constructor
      · intro ht
        obtain ⟨x, hx, hx1, _⟩ := ht
        have := h2 x hx
        rcases low_cons.1 ((h t).1 (low_cons.2 (.inr ⟨x, hx, hx1, by assumption⟩))) with c | c
        · omega
        · exact c
      · intro ht
        obtain ⟨x, hx, hx1, _⟩ := ht
        have := h2' x hx
        rcases low_cons.1 ((h t).2 (low_cons.2 (.inr ⟨x, hx, hx1, by assumption⟩))) with c | c
        · omega
        · exact c
    rw [er]

/-! ### Joining, as it is built: of spans by their beginnings, one after another -/
structure JoinInv (S : List S2) (k : Nat) (l : List S2) : Prop where
  plain : Plain l
  low : ∀ t, Low l t ↔ Low (S.take k) t
  ahead : ∀ x ∈ l, ∀ i, k ≤ i → i < S.length → x.1 ≤ fr S i
structure Srt (S : List S2) : Prop where
  ticks : ∀ i, i < S.length → fr S i < tp S i
  up : ∀ i j, i ≤ j → j < S.length → fr S i ≤ fr S j

theorem take_snoc {S : List S2} {k : Nat} (h : k < S.length) : S.take (k + 1) = S.take k ++ [(fr S k, tp S k)] := by
  rw [List.take_succ_eq_append_getElem h]
  have e : (fr S k, tp S k) = S[k] := by simp [fr, tp, h]
  rw [e]
theorem JoinInv.zero (S : List S2) : JoinInv S 0 [] := ⟨plain_nil, fun t => by simp, fun x hx => by simp at hx⟩
theorem JoinInv.push {S l : List S2} {k : Nat} (hS : Srt S) (h : JoinInv S k l) (hk : k < S.length) (hl : ∀ x ∈ l, x.2 < fr S k) : JoinInv S (k + 1) (l ++ [(fr S k, tp S k)]) := by
  refine ⟨plain_snoc.2 ⟨h.plain, hS.ticks k hk, hl⟩, fun t => ?_, fun x hx i h1 h2 => ?_⟩
  · rw [take_snoc hk, low_append, low_append, h.low]
  · rcases List.mem_append.1 hx with c | c
    · exact h.ahead x c i (by omega) h2
    · simp at c; subst c; exact hS.up k i (by omega) h2
theorem JoinInv.grow {S p : List S2} {q : S2} {k : Nat} (h : JoinInv S k (p ++ [q])) (hk : k < S.length) (hl : fr S k ≤ q.2) (m : Int) (hm : (q.2 ≤ m ∧ tp S k ≤ m) ∧ (m = q.2 ∨ m = tp S k)) : JoinInv S (k + 1) (p ++ [(q.1, m)]) := by
  obtain ⟨hp, hq, hx⟩ := plain_snoc.1 h.plain
  have ha := h.ahead q (by simp) k (by omega) hk
  refine ⟨plain_snoc.2 ⟨hp, by show q.1 < m; omega, hx⟩, fun t => ?_, fun x hx i h1 h2 => ?_⟩
  · have := h.low t
    rw [low_append, low_one] at this
    rw [take_snoc hk, low_append, low_append, low_one, low_one, ← this]
    constructor
    · rintro (c | c)
      · exact .inl (.inl c)
      · by_cases d : t < q.2
        · exact .inl (.inr ⟨c.1, d⟩)
        · exact .inr ⟨by show fr S k ≤ t; omega, by show t < tp S k; have := c.2; simp at this; omega⟩
    · rintro ((c | c) | c)
      · exact .inl c
      · exact .inr ⟨c.1, by show t < m; omega⟩
      · exact .inr ⟨by show q.1 ≤ t; have := c.1; simp at this; omega, by show t < m; have := c.2; simp at this; omega⟩
  · rcases List.mem_append.1 hx with c | c
    · exact h.ahead x (List.mem_append_left _ c) i (by omega) h2
    · simp at c; subst c; exact h.ahead q (by simp) i (by omega) h2
theorem JoinInv.all {S l : List S2} (h : JoinInv S S.length l) : Plain l ∧ ∀ t, Low l t ↔ Low S t := ⟨h.plain, fun t => by rw [h.low, List.take_length]⟩

/-! ### Joining, as the document has it: by where it begins to be low -/
structure Up (X l : List S2) : Prop where
  plain : Plain l
  low : ∀ t, Low l t → Low X t
  rest : ∀ t, Low X t → Low l t ∨ ∀ x ∈ l, x.2 < t
/-- The last end; -2^40 - 1 where there is none. -/
def lastc : List S2 → Int
  | [] => -1099511627777
  | [s] => s.2
  | _ :: s :: r => lastc (s :: r)
theorem lastc_snoc : ∀ (l : List S2) (s : S2), lastc (l ++ [s]) = s.2
  | [], _ => rfl
  | [_], _ => rfl
  | _ :: a :: r, s => lastc_snoc (a :: r) s
theorem lastc_tp : ∀ (l : List S2), 0 < l.length → lastc l = tp l (l.length - 1)
  | [_], _ => rfl
  | a :: b :: r, _ => by
    have := lastc_tp (b :: r) (by simp)
    show lastc (b :: r) = _
    rw [this]
    simp [tp]
theorem lastc_le : ∀ {l : List S2}, Plain l → ∀ x ∈ l, x.2 ≤ lastc l
  | [s], _, x, hx => by simp at hx; subst hx; exact Int.le_refl _
  | a :: b :: r, h, x, hx => by
    obtain ⟨h1, h2, h3⟩ := plain_cons.1 h
    show x.2 ≤ lastc (b :: r)
    rcases List.mem_cons.1 hx with rfl | hx
    · have a1 := h3 b (by simp)
      have a2 := h1.1 b (by simp)
      have a3 := lastc_le h1 b (by simp)
      omega
    · exact lastc_le h1 x hx
theorem lastc_mem : ∀ {l : List S2}, 0 < l.length → ∃ x ∈ l, lastc l = x.2
  | [s], _ => ⟨s, by simp, rfl⟩
  | a :: b :: r, _ => by
    obtain ⟨x, hx, e⟩ := lastc_mem (l := b :: r) (by simp)
    exact ⟨x, List.mem_cons_of_mem _ hx, e⟩

/-- At i a span of X begins where the line goes down, behind all of l. -/
def Cand (X l : List S2) (i : Nat) : Prop := fr X i < tp X i ∧ ¬ Low X (fr X i - 1) ∧ lastc l < fr X i
structure Near (X : List S2) : Prop where
  f0 : ∀ i, i < X.length → -1099511627776 ≤ fr X i
  f1 : ∀ i, i < X.length → fr X i ≤ 1099511627776
  t0 : ∀ i, i < X.length → -1099511627776 ≤ tp X i
  t1 : ∀ i, i < X.length → tp X i ≤ 1099511627776
theorem Near.low {X : List S2} (h : Near X) {t : Int} (ht : Low X t) : -1099511627776 ≤ t ∧ t < 1099511627776 := by
  obtain ⟨i, hi, h1, h2⟩ := low_iff.1 ht
  have := h.f0 i hi
  have := h.t1 i hi
  omega
theorem run_begin {X : List S2} (hN : Near X) : ∀ (n : Nat) (t : Int), (t + 1099511627776).toNat ≤ n → Low X t → ∃ c, c ≤ t ∧ Low X c ∧ ¬ Low X (c - 1) ∧ ∀ u, c ≤ u → u ≤ t → Low X u
  | 0, t, hn, ht => by
    have := hN.low ht
    refine ⟨t, Int.le_refl _, ht, fun h => ?_, fun u h1 h2 => by rw [show u = t by omega]; exact ht⟩
    have := hN.low h
    omega
  | n + 1, t, hn, ht => by
    by_cases h : Low X (t - 1)
    · have := hN.low h
      obtain ⟨c, h1, h2, h3, h4⟩ := run_begin hN n (t - 1) (by omega) h
      refine ⟨c, by omega, h2, h3, fun u a b => ?_⟩
      by_cases e : u = t
      · rw [e]; exact ht
      · exact h4 u a (by omega)
    · exact ⟨t, Int.le_refl _, ht, h, fun u h1 h2 => by rw [show u = t by omega]; exact ht⟩
/-- Where X is low behind all of l, a candidate begins. -/
theorem Up.cand {X l : List S2} (hN : Near X) (h : Up X l) {t : Int} (ht : Low X t) (hb : ¬ Low l t) : ∃ i, i < X.length ∧ Cand X l i ∧ fr X i ≤ t := by
  have beh := (h.rest t ht).resolve_left hb
  obtain ⟨c, h1, h2, h3, h4⟩ := run_begin hN _ t (Nat.le_refl _) ht
  obtain ⟨i, hi, a, b⟩ := low_iff.1 h2
  have e : fr X i = c := by
    rcases ltge (fr X i) c with k | k
    · exact absurd (low_iff.2 ⟨i, hi, by omega, by omega⟩) h3
    · omega
  refine ⟨i, hi, ⟨by omega, by rw [e]; exact h3, ?_⟩, by omega⟩
  rw [e]
  rcases Nat.eq_zero_or_pos l.length with z | z
  · have := hN.low h2
    have : l = [] := List.length_eq_zero_iff.1 z
    subst this
    show (-1099511627777 : Int) < c
    omega
  · obtain ⟨x, hx, e⟩ := lastc_mem z
    rw [e]
    rcases ltge x.2 c with k | k
    · exact k
    · exfalso
      have lx := h4 x.2 k (by have := beh x hx; omega)
      rcases h.rest _ lx with q | q
      · exact plain_not_to h.plain x hx q
      · have := q x hx; omega
theorem Up.done {X l : List S2} (hN : Near X) (h : Up X l) (no : ∀ i, i < X.length → ¬ Cand X l i) : ∀ t, Low l t ↔ Low X t := fun t => by
  refine ⟨h.low t, fun ht => Classical.byContradiction fun hb => ?_⟩
  obtain ⟨i, hi, c, _⟩ := h.cand hN ht hb
  exact no i hi c
theorem Up.push {X l : List S2} (hN : Near X) (h : Up X l) {i : Nat} (hi : i < X.length) (hc : Cand X l i) (least : ∀ j, j < X.length → Cand X l j → fr X i ≤ fr X j) {to : Int} (h1 : fr X i ≤ to) (run : ∀ u, fr X i ≤ u → u < to → Low X u) (hto : ¬ Low X to) :
    Up X (l ++ [(fr X i, to)]) ∧ lastc l < to ∧ lastc (l ++ [(fr X i, to)]) = to := by
  obtain ⟨c1, c2, c3⟩ := hc
  have lb : Low X (fr X i) := low_iff.2 ⟨i, hi, by omega, c1⟩
  have lt : fr X i < to := by
    rcases ltge (fr X i) to with k | k
    · exact k
    · rw [show to = fr X i by omega] at hto; exact absurd lb hto
  have all : ∀ x ∈ l, x.2 < fr X i := fun x hx => by have := lastc_le h.plain x hx; omega
  refine ⟨⟨plain_snoc.2 ⟨h.plain, lt, all⟩, fun t ht => ?_, fun t ht => ?_⟩, by omega, lastc_snoc _ _⟩
  · rcases low_append.1 ht with k | k
    · exact h.low t k
    · rw [low_one] at k; exact run t k.1 k.2
  · by_cases hl : Low l t
    · exact .inl (low_append.2 (.inl hl))
    · obtain ⟨j, hj, cj, le⟩ := h.cand hN ht hl
      have := least j hj cj
      by_cases k : t < to
      · exact .inl (low_append.2 (.inr (low_one.2 ⟨by show fr X i ≤ t; omega, k⟩)))
      · right
        intro x hx
        have ne : t ≠ to := fun e => hto (e ▸ ht)
        rcases List.mem_append.1 hx with q | q
        · have := all x q; omega
        · simp at q; subst q; show to < t; omega

/-! ### Two lines that meet -/
def Meets (a b : List S2) : Prop := ∃ t, Low a t ∧ Low b t
theorem meets_comm {a b : List S2} : Meets a b ↔ Meets b a := ⟨fun ⟨t, h, k⟩ => ⟨t, k, h⟩, fun ⟨t, h, k⟩ => ⟨t, k, h⟩⟩
theorem meets_begin {a b : List S2} : Meets a b ↔ (∃ i, i < a.length ∧ fr a i < tp a i ∧ Low b (fr a i)) ∨ (∃ i, i < b.length ∧ fr b i < tp b i ∧ Low a (fr b i)) := by
  constructor
  · rintro ⟨t, ha, hb⟩
    obtain ⟨i, hi, h1, h2⟩ := low_iff.1 ha
    obtain ⟨j, hj, k1, k2⟩ := low_iff.1 hb
    by_cases c : fr a i ≤ fr b j
    · exact .inr ⟨j, hj, by omega, low_iff.2 ⟨i, hi, c, by omega⟩⟩
    · exact .inl ⟨i, hi, by omega, low_iff.2 ⟨j, hj, by omega, by omega⟩⟩
  · rintro (⟨i, hi, h, k⟩ | ⟨i, hi, h, k⟩)
    · exact ⟨fr a i, low_iff.2 ⟨i, hi, by omega, h⟩, k⟩
    · exact ⟨fr b i, k, low_iff.2 ⟨i, hi, by omega, h⟩⟩

end Go.Proofs.Ytfoaneckegkhcaa.Wi
