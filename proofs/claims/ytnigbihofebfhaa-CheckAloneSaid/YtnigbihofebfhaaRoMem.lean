/- Entries of five numbers: as values and in memory; which may be; their records; which lists may be tables; tables of files, files of tables. -/
import Derived.Test.YtnigbihofebfhaaFlSmall
namespace Go.Proofs.Ytnigbihofebfhaa.Ro
open Go.RowKit
open Go.Proofs.Ytnigbihofebfhaa.Rw (Rd Ow At)
open Go.Proofs.Ytnigbihofebfhaa.Fl (R4 z4 rec4 K4 okR hdr rat goodF)

/-- An entry's five numbers: kind, slot, file, record, byte. -/
abbrev E5 := Int × Int × Int × Int × Int
def z5 : E5 := (0, 0, 0, 0, 0)
def endE : E5 := (4, 0, 0, 0, 0)
def endR : R4 := (4, 0, 0, 0)
def ent (x : E5) : Value := .agg #[.int .i64 x.1, .int .i64 x.2.1, .int .i64 x.2.2.1, .int .i64 x.2.2.2.1, .int .i64 x.2.2.2.2]
def K5 : Rw.Kind E5 := ⟨fun x => [.int .i64 x.1, .int .i64 x.2.1, .int .i64 x.2.2.1, .int .i64 x.2.2.2.1, .int .i64 x.2.2.2.2], 5, by decide, fun _ => rfl, fun _ u h => by simp at h; rcases h with rfl | rfl | rfl | rfl | rfl <;> rfl, z5⟩
def place (s f r : Int) : Prop := 1 ≤ s ∧ s ≤ 16 ∧ 0 ≤ f ∧ f ≤ 63 ∧ 1 ≤ r ∧ r ≤ 255
instance (s f r : Int) : Decidable (place s f r) := by unfold place; infer_instance
def placeB (s f r : Int) : Bool := decide (place s f r)
/-- An entry may be. -/
def okE (x : E5) : Prop := (1 ≤ x.1 ∧ x.1 ≤ 3 ∧ (x.1 ≠ 3 ∨ x.2.2.2.2 = 0) ∧ place x.2.1 x.2.2.1 x.2.2.2.1 ∧ 0 ≤ x.2.2.2.2 ∧ x.2.2.2.2 ≤ 3) ∨ (x.1 = 4 ∧ x.2.1 = 0 ∧ x.2.2.1 = 0 ∧ x.2.2.2.1 = 0 ∧ x.2.2.2.2 = 0)
instance (x : E5) : Decidable (okE x) := by unfold okE; infer_instance
def okB (x : E5) : Bool := decide (okE x)
theorem ok_yes {x : E5} (h : okE x) : okB x = true := decide_eq_true h
theorem ok_no {x : E5} (h : ¬ okE x) : okB x = false := decide_eq_false h
def putR (x : E5) : R4 := if okE x then (64 * x.2.2.2.2 + x.1, x.2.1, x.2.2.1, x.2.2.2.1) else z4
def putN (x : E5) : Int := if okE x then 0 else 1
def takeX (v : R4) : E5 := (v.1 % 64, v.2.1, v.2.2.1, v.2.2.2, v.1 / 64)
def takeE (v : R4) : E5 := if okE (takeX v) then takeX v else z5
def takeN (v : R4) : Int := if okE (takeX v) then 0 else 2
theorem okE_bounds {x : E5} (h : okE x) : (1 ≤ x.1 ∧ x.1 ≤ 4) ∧ (0 ≤ x.2.1 ∧ x.2.1 ≤ 16) ∧ (0 ≤ x.2.2.1 ∧ x.2.2.1 ≤ 63) ∧ (0 ≤ x.2.2.2.1 ∧ x.2.2.2.1 ≤ 255) ∧ 0 ≤ x.2.2.2.2 ∧ x.2.2.2.2 ≤ 3 := by
  unfold okE place at h
  omega
theorem okE_end : okE endE := .inr ⟨rfl, rfl, rfl, rfl, rfl⟩
theorem okE_z : ¬ okE z5 := by decide
theorem putR_ok (x : E5) : okR (putR x) := by
  unfold putR
  by_cases h : okE x
  · rw [if_pos h]
    have := okE_bounds h
    refine ⟨⟨?_, ?_⟩, ⟨?_, ?_⟩, ⟨?_, ?_⟩, ?_, ?_⟩ <;> simp only <;> omega
  · rw [if_neg h]; exact Fl.okR_z
theorem take_put {x : E5} (h : okE x) : takeX (putR x) = x := by
  unfold putR
  rw [if_pos h]
  have := okE_bounds h
  obtain ⟨k, s, f, r, b⟩ := x
  simp only at this
  simp only [takeX, Prod.mk.injEq, true_and]
  omega
theorem put_take {v : R4} (hv : okR v) (h : okE (takeX v)) : putR (takeX v) = v := by
  unfold putR
  rw [if_pos h]
  obtain ⟨a, b, c, d⟩ := v
  simp only [takeX, Prod.mk.injEq, and_true]
  omega
theorem ok_end {x : E5} (h : okE x) (h4 : x.1 = 4) : x = endE := by
  obtain ⟨k, s, f, r, b⟩ := x
  unfold okE at h
  simp only at h h4
  simp only [endE, Prod.mk.injEq]
  omega
theorem ok_slot {x : E5} (h : okE x) : x.1 ≠ 4 ↔ 0 < x.2.1 := by
  unfold okE place at h
  omega

theorem at5 {w : World} {b off : Nat} {l : List E5} (h : At K5 w b off l) (i : Nat) (hi : i < l.length) :
    w.cell? ⟨b, off + i * 5, none⟩ = some (.int .i64 (l.getD i z5).1) ∧ w.cell? ⟨b, off + i * 5 + 1, none⟩ = some (.int .i64 (l.getD i z5).2.1) ∧ w.cell? ⟨b, off + i * 5 + 2, none⟩ = some (.int .i64 (l.getD i z5).2.2.1) ∧ w.cell? ⟨b, off + i * 5 + 3, none⟩ = some (.int .i64 (l.getD i z5).2.2.2.1) ∧ w.cell? ⟨b, off + i * 5 + 4, none⟩ = some (.int .i64 (l.getD i z5).2.2.2.2) :=
  ⟨h i hi 0 _ rfl, h i hi 1 _ rfl, h i hi 2 _ rfl, h i hi 3 _ rfl, h i hi 4 _ rfl⟩
theorem infoE : (Try.prog.info? 30).map (fun i => (i.zero, i.size, i.bytes)) = some (some (.agg #[.int .i64 0, .int .i64 0, .int .i64 0, .int .i64 0, .int .i64 0]), 5, 40) := by kernel_rfl
/-- Entries held against each other. -/
theorem eq_ent (x y : E5) (w : World) : (Op.equalIn 10000 30 (.agg #[.int .i64 x.1, .int .i64 x.2.1, .int .i64 x.2.2.1, .int .i64 x.2.2.2.1, .int .i64 x.2.2.2.2]) (.agg #[.int .i64 y.1, .int .i64 y.2.1, .int .i64 y.2.2.1, .int .i64 y.2.2.2.1, .int .i64 y.2.2.2.2])).run Try.prog w = .ok (decide (x = y)) w := by
  have u3 := Try.underlying3
  have a3 := Try.isAgg3
  have z3 := Try.sizeOf3
  have hS : Try.prog.underlying 30 = some (.struct (Try.prog.fieldsOf 30)) := by kernel_rfl
  have hp : Try.prog.stoodInHeld 30 = false := by kernel_rfl
  obtain ⟨x1, x2, x3, x4, x5⟩ := x
  obtain ⟨y1, y2, y3, y4, y5⟩ := y
  rw [show (10000 : Nat) = 9999 + 1 from rfl, run_equalIn_agg w 9999 30 _ _ hS hp]
  simp only [Program.fieldsOf, Try.underlying30]
  go_simp
  by_cases h1 : x1 = y1 <;> by_cases h2 : x2 = y2 <;> by_cases h3 : x3 = y3 <;> by_cases h4 : x4 = y4 <;> by_cases h5 : x5 = y5 <;> simp [h1, h2, h3, h4, h5]

end Go.Proofs.Ytnigbihofebfhaa.Ro
