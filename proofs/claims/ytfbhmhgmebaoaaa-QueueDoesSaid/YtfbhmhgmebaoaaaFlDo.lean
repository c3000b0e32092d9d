/- file.Do. -/
import Derived.Test.YtfbhmhgmebaoaaaFlWrong
import Derived.Test.YtfbhmhgmebaoaaaAb
import Derived.Test.YtfbhmhgmebaoaaaFlNew
import Derived.Test.YtfbhmhgmebaoaaaFlInc
import Derived.Test.YtfbhmhgmebaoaaaSg
namespace Go.Proofs.Ytfbhmhgmebaoaaa.Fl
set_option maxRecDepth 100000
open Go.RowKit
open Go.Proofs.Ytfbhmhgmebaoaaa.Rw (Rd Ow At)
attribute [local irreducible] Sd.wpSd wpQuiet Sg.wpSg

theorem rat_set (l : List R4) (k : Nat) (hk : k < l.length) (y : R4) : rat (l.set k y) k = y := by simp [rat, List.getD, hk]
theorem set_rat (l : List R4) (k : Nat) (hk : k < l.length) : l.set k (rat l k) = l := by
  have : rat l k = l[k] := by simp [rat, List.getD, List.getElem?_eq_getElem hk]
  rw [this, List.set_getElem_self]
theorem own4 {w : World} {B : Nat} {l : List R4} {g n cap : Nat} (h : Ow K4 w B 31 (.slice (some ⟨g, 0, none⟩) n cap) l) (k : Nat) (hk : k < l.length) :
    (w.cell? ⟨g, k * 4, none⟩ = some (.int .u8 (rat l k).1) ∧ w.cell? ⟨g, k * 4 + 1, none⟩ = some (.int .u8 (rat l k).2.1) ∧ w.cell? ⟨g, k * 4 + 2, none⟩ = some (.int .u8 (rat l k).2.2.1) ∧ w.cell? ⟨g, k * 4 + 3, none⟩ = some (.int .u8 (rat l k).2.2.2)) ∧ (∀ j, w.frozen? ⟨g, j, none⟩ = false) ∧ B ≤ g ∧ g < w.heap.size := by
  obtain ⟨g', cap', eg, h1, h2, _, _, hf, hA⟩ := h.form (by omega)
  have e : g = g' := by
    injection eg with e1
    injection e1 with e1
    injection e1 with e1 _ _
  subst e
  have c := at4 hA k hk
  simp only [Nat.zero_add] at c
  exact ⟨c, hf, h1, h2⟩
theorem own_form {w : World} {B : Nat} {l : List R4} {u : Value} (h : Ow K4 w B 31 u l) (hl : 0 < l.length) : ∃ g cap, u = .slice (some ⟨g, 0, none⟩) l.length cap := by
  obtain ⟨g, cap, e, _⟩ := h.form hl
  exact ⟨g, cap, e⟩

theorem doE_of {p op rec : Int} {l : List R4} (h : doE p l op rec = 0) : goodF p l ∧ (0 ≤ op ∧ op ≤ 2) ∧ 0 ≤ rec ∧ rec < l.length := by
  by_cases h1 : goodF p l
  · by_cases h2 : 0 ≤ op ∧ op ≤ 2
    · by_cases h3 : 0 ≤ rec ∧ rec < l.length
      · exact ⟨h1, h2, h3⟩
      · rw [doE_4 h1 h2 h3] at h; omega
    · rw [doE_1 h1 h2] at h; omega
  · rw [doE_2 h1] at h; omega

end Go.Proofs.Ytfbhmhgmebaoaaa.Fl
