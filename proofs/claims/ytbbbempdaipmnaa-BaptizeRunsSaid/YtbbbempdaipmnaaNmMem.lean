/- Slaves as values and in memory; which is the last one of so many with a name. -/
import Derived.Test.YtbbbempdaipmnaaNmMath
import Derived.Test.YtbbbempdaipmnaaFlMem
import Derived.DeepKeys
namespace Go.Proofs.Ytbbbempdaipmnaa.Nm
open Go.RowKit
open Go.Proofs.Ytbbbempdaipmnaa.Rw (Rd Ow At)

def slv (x : S) : Value := .agg #[.int .u64 x.1, .int .i64 x.2]
def KV : Rw.Kind S := ⟨fun x => [.int .u64 x.1, .int .i64 x.2], 2, by decide, fun _ => rfl, fun _ u h => by simp at h; rcases h with rfl | rfl <;> rfl, zS⟩
theorem atV {w : World} {b off : Nat} {l : List S} (h : At KV w b off l) {i : Nat} (hi : i < l.length) :
    w.cell? ⟨b, off + i * 2, none⟩ = some (.int .u64 (sa l i).1) ∧ w.cell? ⟨b, off + i * 2 + 1, none⟩ = some (.int .i64 (sa l i).2) :=
  ⟨h i hi 0 _ rfl, h i hi 1 _ rfl⟩
theorem infoV : (Try.prog.info? 41).map (fun i => (i.zero, i.size, i.bytes)) = some (some (.agg #[.int .u64 0, .int .i64 0]), 2, 16) := by kernel_rfl
/-- Slaves held against each other. -/
theorem eq_slave (x y : S) (w : World) : (Op.equalIn 10000 41 (.agg #[.int .u64 x.1, .int .i64 x.2]) (.agg #[.int .u64 y.1, .int .i64 y.2])).run Try.prog w = .ok (decide (x = y)) w := by
  have u3 := Try.underlying3
  have a3 := Try.isAgg3
  have z3 := Try.sizeOf3
  have u4 := Try.underlying24
  have a4 := Try.isAgg24
  have z4 := Try.sizeOf24
  have hS : Try.prog.underlying 41 = some (.struct (Try.prog.fieldsOf 41)) := by kernel_rfl
  have hp : Try.prog.stoodInHeld 41 = false := by kernel_rfl
  obtain ⟨x1, x2⟩ := x
  obtain ⟨y1, y2⟩ := y
  rw [show (10000 : Nat) = 9999 + 1 from rfl, run_equalIn_agg w 9999 41 _ _ hS hp]
  simp only [Program.fieldsOf, Try.underlying41]
  go_simp
  by_cases h1 : x1 = y1 <;> by_cases h2 : x2 = y2 <;> simp [h1, h2]

/-- Names that fit where they are kept. -/
def Fit (l : List S) : Prop := ∀ i, i < l.length → (0 ≤ (sa l i).1 ∧ (sa l i).1 < 18446744073709551616) ∧ -9223372036854775808 ≤ (sa l i).2 ∧ (sa l i).2 < 9223372036854775808
theorem Fit.set {l : List S} (h : Fit l) {i : Nat} (hi : i < l.length) {x : S} (hx : (0 ≤ x.1 ∧ x.1 < 18446744073709551616) ∧ -9223372036854775808 ≤ x.2 ∧ x.2 < 9223372036854775808) : Fit (l.set i x) := fun j hj => by
  rw [List.length_set] at hj
  rw [sa_set hi]
  by_cases e : j = i
  · rw [if_pos e]; exact hx
  · rw [if_neg e]; exact h j hj

/-! ### who has it, the last one of the first k -/
/-- What a map says: for each number, a number or none. -/
abbrev Hr := Int → Option Int
def hput (h : Hr) (n y : Int) : Hr := fun m => if m = n then some y else h m
def ltK (f : S → Int) (l : List S) : Nat → Hr
  | 0 => fun _ => none
  | k + 1 => hput (ltK f l k) (f (sa l k)) k
theorem ltK_none {f : S → Int} {l : List S} {n : Int} : ∀ {k : Nat}, ltK f l k n = none ↔ ∀ j, j < k → f (sa l j) ≠ n
  | 0 => ⟨fun _ j h => absurd h (Nat.not_lt_zero j), fun _ => rfl⟩
  | k + 1 => by
    show (if n = f (sa l k) then some (k : Int) else ltK f l k n) = none ↔ _
    by_cases e : n = f (sa l k)
    · rw [if_pos e]
      exact ⟨nofun, fun h => absurd e.symm (h k (Nat.lt_succ_self k))⟩
    · rw [if_neg e, ltK_none]
      refine ⟨fun h j hj => ?_, fun h j hj => h j (by omega)⟩
      by_cases g : j = k
      · subst g; exact fun q => e q.symm
      · exact h j (by omega)
theorem ltK_some {f : S → Int} {l : List S} {n i : Int} : ∀ {k : Nat}, ltK f l k n = some i → ∃ j : Nat, i = j ∧ j < k ∧ f (sa l j) = n ∧ ∀ m, j < m → m < k → f (sa l m) ≠ n
  | 0, h => nomatch h
  | k + 1, h => by
    change (if n = f (sa l k) then some (k : Int) else ltK f l k n) = some i at h
    by_cases e : n = f (sa l k)
    · rw [if_pos e] at h
      injection h with h
      exact ⟨k, h.symm, Nat.lt_succ_self k, e.symm, fun m h1 h2 => by omega⟩
    · rw [if_neg e] at h
      obtain ⟨j, e1, e2, e3, e4⟩ := ltK_some h
      refine ⟨j, e1, by omega, e3, fun m h1 h2 => ?_⟩
      by_cases g : m = k
      · subst g; exact fun q => e q.symm
      · exact e4 m h1 (by omega)
/-- Its place; below 0: nobody has it. -/
def who (f : S → Int) (l : List S) (n : Int) : Int := (ltK f l l.length n).getD (-1)
theorem who_lt {f : S → Int} {l : List S} {n : Int} : who f l n < 0 ↔ ∀ j, j < l.length → f (sa l j) ≠ n := by
  unfold who
  rcases e : ltK f l l.length n with _ | i
  · exact ⟨fun _ => ltK_none.1 e, fun _ => by decide⟩
  · obtain ⟨j, rfl, hj, h, _⟩ := ltK_some e
    exact ⟨fun g => by simp at g; omega, fun g => absurd h (g j hj)⟩
/-- One is the last of those that have what it has. -/
theorem who_is {f : S → Int} {l : List S} {i : Nat} (hi : i < l.length) : who f l (f (sa l i)) = i ↔ ∀ m, i < m → m < l.length → f (sa l m) ≠ f (sa l i) := by
  unfold who
  rcases e : ltK f l l.length (f (sa l i)) with _ | x
  · exact absurd rfl (ltK_none.1 e i hi)
  · obtain ⟨j, rfl, hj, h, hl⟩ := ltK_some e
    constructor
    · intro g
      have g2 : (j : Int) = i := g
      obtain rfl : j = i := by omega
      exact hl
    · intro g
      show (j : Int) = i
      rcases Nat.lt_trichotomy i j with q | q | q
      · exact absurd h (g j q hj)
      · rw [q]
      · exact absurd rfl (hl i q hi)
theorem who_free (l : List S) (n : Int) : decide (who (·.2) l n < 0) = !hs l n := by
  cases e : hs l n with
  | true =>
    obtain ⟨i, hi, h⟩ := hs_iff.1 e
    exact decide_eq_false fun g => who_lt.1 g i hi h
  | false =>
    refine decide_eq_true (who_lt.2 fun j hj h => ?_)
    have := hs_iff.2 ⟨j, hj, h⟩
    rw [e] at this
    cases this
/-- One may be, in its list, as the program looks at it. -/
def okL (l : List S) (i : Nat) : Prop := okN (sa l i) ∧ who (·.1) l (sa l i).1 = i ∧ ((sa l i).2 = 0 ∨ who (·.2) l (sa l i).2 = i)
instance (l : List S) (i : Nat) : Decidable (okL l i) := by unfold okL; infer_instance
theorem gd_yes {l : List S} (h0 : l.length ≤ 32) (h : ∀ i, i < l.length → okL l i) : Gd l :=
  gd_of h0 (fun i hi => (h i hi).1)
    (fun i j hi hj e => by
      have a := (who_is (f := (·.1)) hi).1 (h i hi).2.1
      have b := (who_is (f := (·.1)) hj).1 (h j hj).2.1
      rcases Nat.lt_trichotomy i j with q | q | q
      · exact absurd e.symm (a j q hj)
      · exact q
      · exact absurd e (b i q hi))
    (fun i j hi hj e p => by
      have a := (who_is (f := (·.2)) hi).1 ((h i hi).2.2.resolve_left (by omega))
      have b := (who_is (f := (·.2)) hj).1 ((h j hj).2.2.resolve_left (by omega))
      rcases Nat.lt_trichotomy i j with q | q | q
      · exact absurd e.symm (a j q hj)
      · exact q
      · exact absurd e (b i q hi))
theorem gd_each {l : List S} (h : Gd l) {i : Nat} (hi : i < l.length) : okL l i := by
  refine ⟨h.num hi, (who_is hi).2 fun m h1 h2 e => ?_, ?_⟩
  · have := h.phys h2 hi e; omega
  · by_cases e : (sa l i).2 = 0
    · exact .inl e
    · refine .inr ((who_is (f := (·.2)) hi).2 fun m h1 h2 g => ?_)
      have := (h.num hi).1
      have := h.name h2 hi g (by omega)
      omega
theorem gdB_yes {l : List S} (h : Gd l) : gdB l = true := by unfold gdB; exact @decide_eq_true _ (Classical.propDecidable _) h
theorem gdB_no {l : List S} (h : ¬ Gd l) : gdB l = false := by unfold gdB; exact @decide_eq_false _ (Classical.propDecidable _) h
theorem gdB_iff {l : List S} : gdB l = true ↔ Gd l := ⟨fun h => Classical.byContradiction fun g => Bool.false_ne_true ((gdB_no g).symm.trans h), gdB_yes⟩

end Go.Proofs.Ytbbbempdaipmnaa.Nm
