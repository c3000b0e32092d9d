/- Requests and replies: which may be, and their bytes. -/
import Derived.Test.YtfbhmhgmebaoaaaFlMem
import Derived.Lib.Hide
namespace Go.Proofs.Ytfbhmhgmebaoaaa.Rq
open Go.RowKit
open Go.Proofs.Ytfbhmhgmebaoaaa.Fl (R4 z4)

/-- A request; a reply. -/
structure Q where
  id : Int
  k : Int
  n : Int
  f : Int
  r : Int
  v : R4
  key : Int
structure Y where
  id : Int
  e : Int
  v : R4
def zQ : Q := ⟨0, 0, 0, 0, 0, z4, 0⟩
def zY : Y := ⟨0, 0, z4⟩
/-- The bytes of its record are bytes. -/
def okV (v : R4) : Prop := (0 ≤ v.1 ∧ v.1 < 256) ∧ (0 ≤ v.2.1 ∧ v.2.1 < 256) ∧ (0 ≤ v.2.2.1 ∧ v.2.2.1 < 256) ∧ 0 ≤ v.2.2.2 ∧ v.2.2.2 < 256
def bare (v : R4) : Prop := v.1 = 0 ∧ v.2.1 = 0 ∧ v.2.2.1 = 0 ∧ v.2.2.2 = 0
def good (x : Q) : Prop := (0 ≤ x.id ∧ x.id ≤ 65535) ∧ (1 ≤ x.k ∧ x.k ≤ 4) ∧ (0 ≤ x.n ∧ x.n ≤ 31) ∧ (0 ≤ x.f ∧ x.f ≤ 63) ∧ (0 ≤ x.r ∧ x.r ≤ 255) ∧ (0 ≤ x.key ∧ x.key ≤ 255) ∧ (x.k = 4 → x.f = 0 ∧ x.r = 0) ∧ (x.k = 2 ∨ x.v.1 = 0 ∧ x.v.2.1 = 0 ∧ x.v.2.2.1 = 0 ∧ x.v.2.2.2 = 0)
instance (x : Q) : Decidable (good x) := by unfold good; infer_instance
def may (y : Y) : Prop := (0 ≤ y.id ∧ y.id ≤ 65535) ∧ (0 ≤ y.e ∧ y.e ≤ 16) ∧ (y.e = 0 ∨ y.v.1 = 0 ∧ y.v.2.1 = 0 ∧ y.v.2.2.1 = 0 ∧ y.v.2.2.2 = 0)
instance (y : Y) : Decidable (may y) := by unfold may; infer_instance
def goodB (x : Q) : Bool := decide (good x)
def mayB (y : Y) : Bool := decide (may y)
/-- Their bytes. -/
def qb (x : Q) : List Int := [0, if x.k = 2 then 11 else 7, x.id / 256, x.id % 256, x.k, x.n, x.f, x.r, x.key] ++ if x.k = 2 then [x.v.1, x.v.2.1, x.v.2.2.1, x.v.2.2.2] else []
def yb (y : Y) : List Int := [0, 7, y.id / 256, y.id % 256, y.e, y.v.1, y.v.2.1, y.v.2.2.1, y.v.2.2.2]
/-- What bytes would have to be. -/
def qof (l : List Int) : Q := ⟨l.getD 2 0 * 256 + l.getD 3 0, l.getD 4 0, l.getD 5 0, l.getD 6 0, l.getD 7 0, if l.length = 13 then (l.getD 9 0, l.getD 10 0, l.getD 11 0, l.getD 12 0) else z4, l.getD 8 0⟩
def yof (l : List Int) : Y := ⟨l.getD 2 0 * 256 + l.getD 3 0, l.getD 4 0, (l.getD 5 0, l.getD 6 0, l.getD 7 0, l.getD 8 0)⟩
def isQ (l : List Int) : Prop := (l.length = 9 ∨ l.length = 13) ∧ good (qof l) ∧ qb (qof l) = l
def isY (l : List Int) : Prop := l.length = 9 ∧ may (yof l) ∧ yb (yof l) = l
instance (l : List Int) : Decidable (isQ l) := by unfold isQ; infer_instance
instance (l : List Int) : Decidable (isY l) := by unfold isY; infer_instance

end Go.Proofs.Ytfbhmhgmebaoaaa.Rq
