/- Layer 21: requests, replies held against each other; strings of bytes. -/
import Derived.Test.YticdgjohladdlaaRqVal
import Derived.Laws.StructEq
import Derived.DeepKeys
import Derived.ChangeKeysEq
namespace Go.Proofs.Yticdgjohladdlaa.Rq
open Go.RowKit
open Go.Proofs.Yticdgjohladdlaa.Rw (Rd Ow At)
open Go.Proofs.Yticdgjohladdlaa.Fl (R4 z4)
set_option maxRecDepth 100000

/-- A list of bytes as a string. -/
theorem conv_any {w : World} {v : Value} {l : List Int} (R : Rd KU w v l) : (convert 26 9 v).run Try.prog w = .ok (.string (strOfNums l)) w := by
  obtain ⟨a, cap, rfl, _, _, h2⟩ := R
  by_cases h : 0 < l.length
  · obtain ⟨b, off, rfl, hA⟩ := h2 h
    exact run_convert_bytes_arg w 26 5 Try.underlying26 Try.underlying5 b off _ cap l rfl (cells_at hA) 9 Try.underlying9
  · obtain rfl : l = [] := List.length_eq_zero_iff.1 (by omega)
    cases a with
    | none => exact run_convert_bytes_nil w 26 5 Try.underlying26 Try.underlying5 _ _ 9 Try.underlying9
    | some a =>
      have hl : (loadCells a 0).run Try.prog w = .ok #[] w := run_loadCells_list (P := Try.prog) w a [] (by simp)
      rw [run_convert_bytes_string w 26 9 5 _ _ _ Try.underlying26 Try.underlying5 Try.underlying9]
      simp [Conv.bytesToString, hl]
      rfl

theorem same_q (x : Q) (w : World) : (Op.equalIn 10000 25 (.agg (qA x)) (.agg (qA x))).run Try.prog w = .ok true w := by
  obtain ⟨j, hj⟩ : ∃ i, Try.prog.info? 5 = some i := Option.isSome_iff_exists.1 (by kernel_rfl)
  have hc : Try.prog.cellsOf 5 = 1 := by kernel_rfl
  have u3 := Try.underlying3
  have a3 := Try.isAgg3
  have z3 := Try.sizeOf3
  have hS : Try.prog.underlying 25 = some (.struct (Try.prog.fieldsOf 25)) := by kernel_rfl
  have hp : Try.prog.stoodInHeld 25 = false := by kernel_rfl
  obtain ⟨id, k, n, f, r, ⟨v0, v1, v2, v3⟩, key⟩ := x
  unfold qA
  dsimp only
  rw [show (10000 : Nat) = 9999 + 1 from rfl, run_equalIn_agg w 9999 25 _ _ hS hp]
  simp only [Program.fieldsOf, Try.underlying25]
  have er := run_equalIn_array w 9998 #[.int .u8 v0, .int .u8 v1, .int .u8 v2, .int .u8 v3] #[.int .u8 v0, .int .u8 v1, .int .u8 v2, .int .u8 v3] Try.underlying23 hj
  rw [hc] at er
  simp [Op.eqItems, List.range, List.range.loop, part, go_sem] at er
  go_simp

theorem same_y (x : Y) (w : World) : (Op.equalIn 10000 40 (.agg (yA x)) (.agg (yA x))).run Try.prog w = .ok true w := by
  obtain ⟨j, hj⟩ : ∃ i, Try.prog.info? 5 = some i := Option.isSome_iff_exists.1 (by kernel_rfl)
  have hc : Try.prog.cellsOf 5 = 1 := by kernel_rfl
  have u3 := Try.underlying3
  have a3 := Try.isAgg3
  have z3 := Try.sizeOf3
  have hS : Try.prog.underlying 40 = some (.struct (Try.prog.fieldsOf 40)) := by kernel_rfl
  have hp : Try.prog.stoodInHeld 40 = false := by kernel_rfl
  obtain ⟨id, k, ⟨v0, v1, v2, v3⟩⟩ := x
  unfold yA
  dsimp only
  rw [show (10000 : Nat) = 9999 + 1 from rfl, run_equalIn_agg w 9999 40 _ _ hS hp]
  simp only [Program.fieldsOf, Try.underlying40]
  have er := run_equalIn_array w 9998 #[.int .u8 v0, .int .u8 v1, .int .u8 v2, .int .u8 v3] #[.int .u8 v0, .int .u8 v1, .int .u8 v2, .int .u8 v3] Try.underlying23 hj
  rw [hc] at er
  simp [Op.eqItems, List.range, List.range.loop, part, go_sem] at er
  go_simp

end Go.Proofs.Yticdgjohladdlaa.Rq
