/- file.Do. -/
import Derived.Test.YtabhpafmppmigaaFlWrong
import Derived.Test.YtabhpafmppmigaaFlNew
import Derived.Test.YtabhpafmppmigaaFlInc
import Derived.Test.YtabhpafmppmigaaSf
namespace Go.Proofs.Ytabhpafmppmigaa.Fl
set_option maxRecDepth 100000
open Go.RowKit
open Go.Proofs.Ytabhpafmppmigaa.Rw (Rd Ow At)
attribute [local irreducible] Sd.wpSd wpQuiet Sf.wpSf

theorem rat_set (l : List R4) (k : Nat) (hk : k < l.length) (y : R4) : rat (l.set k y) k = y := by simp [rat, List.getD, hk]
theorem set_rat (l : List R4) (k : Nat) (hk : k < l.length) : l.set k (rat l k) = l := by
  have : rat l k = l[k] := by simp [rat, List.getD, List.getElem?_eq_getElem hk]
  rw [this, List.set_getElem_self]
theorem doE_of {p op rec : Int} {l : List R4} (h : doE p l op rec = 0) : goodF p l ∧ (0 ≤ op ∧ op ≤ 2) ∧ 0 ≤ rec ∧ rec < l.length := by
  by_cases h1 : goodF p l
  · by_cases h2 : 0 ≤ op ∧ op ≤ 2
    · by_cases h3 : 0 ≤ rec ∧ rec < l.length
      · exact ⟨h1, h2, h3⟩
      · rw [doE_4 h1 h2 h3] at h; omega
    · rw [doE_1 h1 h2] at h; omega
  · rw [doE_2 h1] at h; omega

end Go.Proofs.Ytabhpafmppmigaa.Fl
