/- uart.place: what a frame's bit is worth in the byte; uart.isOdd: is an odd number of a frame's bits 1 to 9 high? -/
import Derived.Test.YtejibonnjbhcjaaDoorUaMem
namespace Go.Proofs.YtejibonnjbhcjaaDoor.Ua
open Go.RowKit

theorem place_any (w : World) (k : Nat) (h : k < 8) : Calls Tryd.prog 15 #[.int .i64 (k + 1 : Nat)] w fun e w' => e = .returned (.int .u8 (2 ^ k)) ∧ w = w' := by
  rcases (by omega : k = 0 ∨ k = 1 ∨ k = 2 ∨ k = 3 ∨ k = 4 ∨ k = 5 ∨ k = 6 ∨ k = 7) with rfl | rfl | rfl | rfl | rfl | rfl | rfl | rfl
  all_goals
    go_enter Tryd.func15, Tryd.ntmps15
    go_wp2
    go_ret
    exact ⟨ret_int (by decide), rfl⟩

theorem isOdd_any (w : World) (F : Nat → Bool) : Calls Tryd.prog 16 #[.agg (arr F)] w fun e w' => e = .returned (.bool (par F 9)) ∧ Below w.heap.size w w' := by
  have R0 := Lib.hid (Row.new w F)
  have B0 := Lib.hid ((Below.refl w.heap.size w).alloc (Nat.le_refl _) (.cells (arr F) 23))
  go_enter Tryd.func16, Tryd.ntmps16
  go_wp2
  go_loop [3, 8] (fun o i => ∃ k : Nat, k ≤ 9 ∧ i = .int .i64 k ∧ o = .bool (par F k)) (fun _ i => 9 - (intOf i).toNat)
  case atStart => exact ⟨0, by omega, rfl, rfl⟩
  case round =>
    obtain ⟨k, hk, rfl, rfl⟩ := hrel
    by_cases hlt : k < 9
    · have c := R0.out.cell (1 + k) (by omega)
      have e : par F (k + 1) = (par F k != F (1 + k)) := by rw [par, Nat.add_comm 1 k]
      have E := Lib.hid e
      clear e
      go_wp2
      go_round
      case rel => exact ⟨k + 1, by omega, by go_num, by rw [E.out]; cases par F k <;> cases F (1 + k) <;> rfl⟩
      case measure => simp [intOf]; omega
    · obtain rfl : k = 9 := by omega
      go_wp2
      go_ret
      exact ⟨rfl, B0.out⟩

end Go.Proofs.YtejibonnjbhcjaaDoor.Ua
