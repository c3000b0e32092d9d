/- Records of four bytes, and files: as values and in memory; the header; what may be. -/
import Derived.Test.YtfbhmhgmebaoaaaRw
import Derived.Test.YtfbhmhgmebaoaaaChecked
import Derived.LoopTactic
import Derived.Outline
import Derived.Deep.LoopGhost
import Derived.Deep.QuietTactic
import Derived.WalkSmall
import Derived.Laws.ResultCell
import Derived.ChangeKeysEq
import Derived.Laws.StructEq
namespace Go.Proofs.Ytfbhmhgmebaoaaa.Fl
open Go.RowKit
open Go.Proofs.Ytfbhmhgmebaoaaa.Rw (Rd Ow At)

/-- A record's four bytes. -/
abbrev R4 := Int × Int × Int × Int
def z4 : R4 := (0, 0, 0, 0)
def rec4 (r : R4) : Value := .agg #[.int .u8 r.1, .int .u8 r.2.1, .int .u8 r.2.2.1, .int .u8 r.2.2.2]
def K4 : Rw.Kind R4 := ⟨fun r => [.int .u8 r.1, .int .u8 r.2.1, .int .u8 r.2.2.1, .int .u8 r.2.2.2], 4, by decide, fun _ => rfl, fun _ u h => by simp at h; rcases h with rfl | rfl | rfl | rfl <;> rfl, z4⟩
/-- A file as a value: its permissions, and a slice of records. -/
def file (p : Int) (v : Value) : Value := .agg #[.int .i64 p, v]
def hdr (p n : Int) : R4 := (n, p, 165, bits .xor .u8 (bits .xor .u8 n p) 165)
/-- The record at a place. -/
def rat (l : List R4) (i : Nat) : R4 := l.getD i z4
def goodF (p : Int) (l : List R4) : Prop := 0 ≤ p ∧ p ≤ 7 ∧ 1 ≤ l.length ∧ l.length ≤ 256 ∧ rat l 0 = hdr p ((l.length : Int) - 1)
instance (p : Int) (l : List R4) : Decidable (goodF p l) := by unfold goodF; infer_instance
def goodFB (p : Int) (l : List R4) : Bool := decide (goodF p l)

theorem at4 {w : World} {b off : Nat} {l : List R4} (h : At K4 w b off l) (i : Nat) (hi : i < l.length) :
    w.cell? ⟨b, off + i * 4, none⟩ = some (.int .u8 (rat l i).1) ∧ w.cell? ⟨b, off + i * 4 + 1, none⟩ = some (.int .u8 (rat l i).2.1) ∧ w.cell? ⟨b, off + i * 4 + 2, none⟩ = some (.int .u8 (rat l i).2.2.1) ∧ w.cell? ⟨b, off + i * 4 + 3, none⟩ = some (.int .u8 (rat l i).2.2.2) :=
  ⟨h i hi 0 _ rfl, h i hi 1 _ rfl, h i hi 2 _ rfl, h i hi 3 _ rfl⟩
theorem at4_0 {w : World} {b off : Nat} {l : List R4} (h : At K4 w b off l) (hi : 0 < l.length) :
    w.cell? ⟨b, off, none⟩ = some (.int .u8 (rat l 0).1) ∧ w.cell? ⟨b, off + 1, none⟩ = some (.int .u8 (rat l 0).2.1) ∧ w.cell? ⟨b, off + 2, none⟩ = some (.int .u8 (rat l 0).2.2.1) ∧ w.cell? ⟨b, off + 3, none⟩ = some (.int .u8 (rat l 0).2.2.2) := by
  have := at4 h 0 hi
  simpa using this

theorem infoR : (Try.prog.info? 31).map (fun i => (i.zero, i.size, i.bytes)) = some (some (.agg #[.int .u8 0, .int .u8 0, .int .u8 0, .int .u8 0]), 4, 4) := by kernel_rfl
/-- Records held against each other. -/
theorem eq_rec (r s : R4) (w : World) : (Op.equalIn 10000 31 (.agg #[.int .u8 r.1, .int .u8 r.2.1, .int .u8 r.2.2.1, .int .u8 r.2.2.2]) (.agg #[.int .u8 s.1, .int .u8 s.2.1, .int .u8 s.2.2.1, .int .u8 s.2.2.2])).run Try.prog w = .ok (decide (r = s)) w := by
  obtain ⟨j, hj⟩ : ∃ i, Try.prog.info? 5 = some i := Option.isSome_iff_exists.1 (by kernel_rfl)
  have hc : Try.prog.cellsOf 5 = 1 := by kernel_rfl
  obtain ⟨r1, r2, r3, r4⟩ := r
  obtain ⟨s1, s2, s3, s4⟩ := s
  rw [run_equalIn_array w 9999 _ _ Try.underlying31 hj, hc]
  by_cases h1 : r1 = s1 <;> by_cases h2 : r2 = s2 <;> by_cases h3 : r3 = s3 <;> by_cases h4 : r4 = s4 <;> simp [Op.eqItems, List.range, List.range.loop, part, go_sem, h1, h2, h3, h4]

theorem ret_bool {a b : Bool} (h : a = b) : Ending.returned (.bool a) = .returned (.bool b) := by rw [h]
theorem at_bool {P : Program} {f : Nat} {args : Array Value} {w : World} {B : Nat} {a b : Bool} (e : a = b) (c : Calls P f args w fun e w' => e = .returned (.bool a) ∧ Below B w w') : Calls P f args w fun e w' => e = .returned (.bool b) ∧ Below B w w' := by rw [← e]; exact c

end Go.Proofs.Ytfbhmhgmebaoaaa.Fl
