/- Layer 21: requests, replies held against each other; strings of bytes. -/
import Derived.Test.YtfbhmhgmebaoaaaRqVal
import Derived.Laws.StructEq
import Derived.DeepKeys
import Derived.ChangeKeysEq
namespace Go.Proofs.Ytfbhmhgmebaoaaa.Rq
open Go.RowKit
open Go.Proofs.Ytfbhmhgmebaoaaa.Rw (Rd Ow At)
open Go.Proofs.Ytfbhmhgmebaoaaa.Fl (R4 z4)
set_option maxRecDepth 100000

theorem same_q (x : Q) (w : World) : (Op.equalIn 10000 33 (.agg (qA x)) (.agg (qA x))).run Try.prog w = .ok true w := by
  obtain ⟨j, hj⟩ : ∃ i, Try.prog.info? 5 = some i := Option.isSome_iff_exists.1 (by kernel_rfl)
  have hc : Try.prog.cellsOf 5 = 1 := by kernel_rfl
  have u3 := Try.underlying3
  have a3 := Try.isAgg3
  have z3 := Try.sizeOf3
  have hS : Try.prog.underlying 33 = some (.struct (Try.prog.fieldsOf 33)) := by kernel_rfl
  have hp : Try.prog.stoodInHeld 33 = false := by kernel_rfl
  obtain ⟨id, k, n, f, r, ⟨v0, v1, v2, v3⟩, key⟩ := x
  unfold qA
  dsimp only
  rw [show (10000 : Nat) = 9999 + 1 from rfl, run_equalIn_agg w 9999 33 _ _ hS hp]
  simp only [Program.fieldsOf, Try.underlying33]
  have er := run_equalIn_array w 9998 #[.int .u8 v0, .int .u8 v1, .int .u8 v2, .int .u8 v3] #[.int .u8 v0, .int .u8 v1, .int .u8 v2, .int .u8 v3] Try.underlying31 hj
  rw [hc] at er
  simp [Op.eqItems, List.range, List.range.loop, part, go_sem] at er
  go_simp

end Go.Proofs.Ytfbhmhgmebaoaaa.Rq
