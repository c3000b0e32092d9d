/- What Do answers, as numbers; file.header, isPerm, needs, may, Good. -/
import Derived.Test.YtfbhmhgmebaoaaaFlRef
namespace Go.Proofs.Ytfbhmhgmebaoaaa.Fl
open Go.RowKit
open Go.Proofs.Ytfbhmhgmebaoaaa.Rw (Rd Ow At)

def okR (r : R4) : Prop := (0 ≤ r.1 ∧ r.1 ≤ 255) ∧ (0 ≤ r.2.1 ∧ r.2.1 ≤ 255) ∧ (0 ≤ r.2.2.1 ∧ r.2.2.1 ≤ 255) ∧ 0 ≤ r.2.2.2 ∧ r.2.2.2 ≤ 255
def okL (l : List R4) : Prop := ∀ r ∈ l, okR r
theorem okR_z : okR z4 := ⟨⟨by decide, by decide⟩, ⟨by decide, by decide⟩, ⟨by decide, by decide⟩, by decide, by decide⟩
theorem okR_at {l : List R4} (h : okL l) (i : Nat) : okR (rat l i) := by
  unfold rat
  rw [List.getD_eq_getElem?_getD]
  rcases e : l[i]? with _ | r
  · exact okR_z
  · exact h r (List.mem_of_getElem? e)
/-- The number that a record is, and one. -/
def num (r : R4) : Int := r.1 * 16777216 + r.2.1 * 65536 + r.2.2.1 * 256 + r.2.2.2
def bytes (n : Int) : R4 := (n / 16777216, n / 65536 % 256, n / 256 % 256, n % 256)
def inc (r : R4) : R4 := bytes ((num r + 1) % 4294967296)
def need (op : Int) : Int := if op = 0 then 1 else if op = 1 then 2 else 4
def doE (p : Int) (l : List R4) (op rec : Int) : Int :=
  if goodF p l then
    if 0 ≤ op ∧ op ≤ 2 then
      if 0 ≤ rec ∧ rec < l.length then
        if rec = 0 ∧ op = 0 ∨ 0 < rec ∧ p / need op % 2 = 1 then 0 else 5
      else 4
    else 1
  else 2
theorem doE_2 {p op rec : Int} {l : List R4} (h : ¬ goodF p l) : doE p l op rec = 2 := by unfold doE; rw [if_neg h]
theorem doE_1 {p op rec : Int} {l : List R4} (h : goodF p l) (h2 : ¬ (0 ≤ op ∧ op ≤ 2)) : doE p l op rec = 1 := by unfold doE; rw [if_pos h, if_neg h2]
theorem doE_4 {p op rec : Int} {l : List R4} (h : goodF p l) (h2 : 0 ≤ op ∧ op ≤ 2) (h3 : ¬ (0 ≤ rec ∧ rec < l.length)) : doE p l op rec = 4 := by unfold doE; rw [if_pos h, if_pos h2, if_neg h3]
theorem doE_5 {p op rec : Int} {l : List R4} (h : goodF p l) (h2 : 0 ≤ op ∧ op ≤ 2) (h3 : 0 ≤ rec ∧ rec < l.length) (h4 : ¬ (rec = 0 ∧ op = 0 ∨ 0 < rec ∧ p / need op % 2 = 1)) : doE p l op rec = 5 := by unfold doE; rw [if_pos h, if_pos h2, if_pos h3, if_neg h4]
theorem doE_0 {p op rec : Int} {l : List R4} (h : goodF p l) (h2 : 0 ≤ op ∧ op ≤ 2) (h3 : 0 ≤ rec ∧ rec < l.length) (h4 : rec = 0 ∧ op = 0 ∨ 0 < rec ∧ p / need op % 2 = 1) : doE p l op rec = 0 := by unfold doE; rw [if_pos h, if_pos h2, if_pos h3, if_pos h4]
/-- What the record has then. -/
def newR (l : List R4) (op rec : Int) (x : R4) : R4 := if op = 1 then x else if op = 2 then inc (rat l rec.toNat) else rat l rec.toNat
def DoPost (w : World) (p : Int) (l : List R4) (op rec : Int) (x : R4) (e : Ending) (w' : World) : Prop :=
  ∃ u, e = .returned (.tuple #[file (if doE p l op rec = 0 then p else 0) u, rec4 (if doE p l op rec = 0 then newR l op rec x else z4), .int .i64 (doE p l op rec)]) ∧ Ow K4 w' w.heap.size 31 u (if doE p l op rec = 0 then l.set rec.toNat (newR l op rec x) else []) ∧ Below w.heap.size w w'

def permB (p : Int) : Bool := decide (0 ≤ p ∧ p ≤ 7)
theorem perm_yes {p : Int} (h1 : 0 ≤ p) (h2 : p ≤ 7) : permB p = true := decide_eq_true ⟨h1, h2⟩
theorem perm_no {p : Int} (h : ¬ (0 ≤ p ∧ p ≤ 7)) : permB p = false := decide_eq_false h
def needsN (op : Int) : Int := if 0 ≤ op ∧ op ≤ 2 then need op else 0
def mayB (p op rec : Int) : Bool := decide (rec = 0 ∧ op = 0 ∨ 0 < rec ∧ p / need op % 2 = 1)
theorem and_perm : ∀ (p : Fin 8) (op : Fin 3), decide (bits BinOp.and .i64 (p.val : Int) (need (op.val : Int)) = 0) = decide (¬ ((p.val : Int) / need (op.val : Int) % 2 = 1)) := by decide +kernel
theorem and_perm' {p op : Int} (p0 : 0 ≤ p) (p1 : p ≤ 7) (o0 : 0 ≤ op) (o1 : op ≤ 2) : (bits BinOp.and .i64 p (need op) = 0) ↔ ¬ (p / need op % 2 = 1) := by
  have := and_perm ⟨p.toNat, by omega⟩ ⟨op.toNat, by omega⟩
  simp only [Int.toNat_of_nonneg p0, Int.toNat_of_nonneg o0] at this
  exact decide_eq_decide.1 this
end Go.Proofs.Ytfbhmhgmebaoaaa.Fl
