/- The two statements of layer 3, walked: UartFrames and UartRound answer true. -/
import Derived.Test.YtdejichhiceaiaaUaAwake
import Derived.Test.YtdejichhiceaiaaQb
namespace Go.Proofs.Ytdejichhiceaiaa.Ua
open Go.RowKit

set_option maxHeartbeats 1000000 in
theorem frames_any (w : World) (b : Int) (odd : Bool) (F : Nat → Bool) (m : Int) (h0 : 0 ≤ b) (h1 : b ≤ 255) : Calls Try.prog 3 #[.int .u8 b, .bool odd, .agg (arr F), .int .i64 m] w fun e w' => e = .returned (.bool true) ∧ Below w.heap.size w w' := by
  have B1 := Lib.hid ((Below.refl w.heap.size w).alloc (Nat.le_refl _) (.cells (arr F) 23))
  have R1 := Lib.hid (Row.new w F)
  go_enter Try.func3, Try.ntmps3
  go_wp2_with ((with_reducible refine load_frame (o := ⟨some 16, _, _, _, _, _⟩) rfl _ rfl _ _ ?_ R1.out ?_); (exact rfl))
  refine (take_any _ F).mono ?_
  rintro e w2 ⟨rfl, b2⟩
  have R2 := Lib.hid (R1.out.below b2 R1.out.lt)
  have B2 := Lib.hid (B1.out.trans (b2.mono B1.out.size))
  clear b2 R1
  go_wp2_with ((with_reducible refine load_frame (o := ⟨some 22, _, _, _, _, _⟩) rfl _ rfl _ _ ?_ R2.out ?_); (exact rfl))
  refine (rtake_any _ F).mono ?_
  rintro e w3 ⟨rfl, b3⟩
  have R3 := Lib.hid (R2.out.below b3 R2.out.lt)
  have B3 := Lib.hid (B2.out.trans (b3.mono B2.out.size))
  clear b3 R2
  have e1 := eq_same (frm b odd)
  have e2 := eq_same (turn F m 11)
  have g0 := Qb.cell_by (R3.out.cell 0 (by omega))
  have g1 := Qb.cell_by (R3.out.cell 1 (by omega))
  have g2 := Qb.cell_by (R3.out.cell 2 (by omega))
  have g3 := Qb.cell_by (R3.out.cell 3 (by omega))
  have g4 := Qb.cell_by (R3.out.cell 4 (by omega))
  have g5 := Qb.cell_by (R3.out.cell 5 (by omega))
  have g6 := Qb.cell_by (R3.out.cell 6 (by omega))
  have g7 := Qb.cell_by (R3.out.cell 7 (by omega))
  have g8 := Qb.cell_by (R3.out.cell 8 (by omega))
  have g9 := Qb.cell_by (R3.out.cell 9 (by omega))
  have g10 := Qb.cell_by (R3.out.cell 10 (by omega))
  generalize tb F = x1
  generalize tp F = x2
  generalize te F = x3
  go_wp2_with fail
  refine Qb.wp_region_by (by kernel_rfl) (by kernel_rfl) ?_
  repeat (quiet_step ((first
    | (go_at_call 7; exact Qb.of_below (awake_any _))
    | (go_at_call 8; exact Qb.of_below (put_any _ b odd h0 h1))
    | (go_at_call 9; exact Qb.of_below (rput_any _ b odd h0 h1))
    | (go_at_call 10; exact Qb.of_below (turn_any _ F m))
    | (go_at_call 11; exact Qb.of_below (rturn_any _ F m)))))
  refine wpQuiet_nil ?_
  intro _ hw'
  obtain ⟨p, rfl⟩ := hw'
  go_wp2
  go_ret
  exact ⟨rfl, B3.out.trans (p.below.mono B3.out.size)⟩

theorem ones_step (M : Int) (k : Nat) : (ones M (k + 1) : Int) = ones M k + M / 2 ^ k % 2 := by
  rw [ones, bit_mod]
  split <;> simp

set_option maxHeartbeats 2000000 in
theorem round_any (w : World) (b : Int) (odd : Bool) (m : Int) (h0 : 0 ≤ b) (h1 : b ≤ 255) : Calls Try.prog 4 #[.int .u8 b, .bool odd, .int .i64 m] w fun e w' => e = .returned (.bool true) ∧ Below w.heap.size w w' := by
  have an := and_1022 m
  have mb := bits_in m
  have MB0 := Lib.hid mb.1
  have MB10 := Lib.hid mb.2
  have m0 : 0 ≤ m / 2 % 512 * 2 := by omega
  have m1 : m / 2 % 512 * 2 ≤ 1022 := by omega
  generalize m / 2 % 512 * 2 = M at *
  clear mb
  go_enter Try.func4, Try.ntmps4
  go_wp2_with fail
  refine (put_any _ b odd h0 h1).mono ?_
  rintro e w1 ⟨rfl, b1⟩
  have B1 := Lib.hid (b1.alloc b1.size (.cells (arr (frm b odd)) 23))
  have R1 := Lib.hid (Row.new w1 (frm b odd))
  clear b1
  go_wp2_with (first
    | ((with_reducible refine store_new (o := ⟨none, _, _, _, _, _⟩) rfl _ _ rfl (frm b odd) ?_ ?_ ?_); (exact rfl); (exact rfl))
    | ((with_reducible refine load_frame (o := ⟨some 21, _, _, _, _, _⟩) rfl _ rfl _ _ ?_ R1.out ?_); (exact rfl)))
  refine (at_three (tb_frm b odd h0 h1) (tp_frm b odd) (te_frm b odd) (take_any _ (frm b odd))).mono ?_
  rintro e w2 ⟨rfl, b2⟩
  have R2 := Lib.hid (R1.out.below b2 R1.out.lt)
  have B2 := Lib.hid (B1.out.trans (b2.mono B1.out.size))
  clear b2 R1
  go_wp2
  go_loop [12, 13] (fun c i => ∃ k : Nat, k ≤ 11 ∧ i = .int .i64 k ∧ c = .int .i64 (ones M k : Nat)) (fun _ i => 11 - (intOf i).toNat)
  case atStart => exact ⟨0, by omega, rfl, rfl⟩
  case round =>
    obtain ⟨k, hk, rfl, rfl⟩ := hrel
    have q := ones_le M k
    by_cases hlt : k < 11
    · have OS := Lib.hid (ones_step M k)
      have ao := and_one (M / 2 ^ k)
      have p0 : 0 ≤ M / 2 ^ k % 2 := by omega
      have p1 : M / 2 ^ k % 2 ≤ 1 := by omega
      generalize ones M k = cc at *
      generalize M / 2 ^ k % 2 = r at *
      go_wp2
      go_round
      case rel => exact ⟨k + 1, by omega, by go_num, by rw [OS.out]⟩
      case measure => simp [intOf]; omega
    · obtain rfl : k = 11 := by omega
      have OP := Lib.hid (ones_par M MB0.out MB10.out)
      generalize ones M 11 = cc at *
      go_wp2_with ((with_reducible refine load_frame (o := ⟨some 40, _, _, _, _, _⟩) rfl _ rfl _ _ ?_ R2.out ?_); (exact rfl))
      refine (turn_any _ (frm b odd) M).mono ?_
      rintro e w3 ⟨rfl, b3⟩
      have R3 := Lib.hid (R2.out.below b3 R2.out.lt)
      have B3 := Lib.hid (B2.out.trans (b3.mono B2.out.size))
      clear b3 R2
      have TT := Lib.hid (tp_turn b odd M MB0.out MB10.out)
      have TE := Lib.hid (te_turn b odd M MB0.out MB10.out)
      go_wp2_with fail
      refine (at_three rfl TT.out TE.out (take_any _ (turn (frm b odd) M 11))).mono ?_
      rintro e w4 ⟨rfl, b4⟩
      have R4 := Lib.hid (R3.out.below b4 R3.out.lt)
      have B4 := Lib.hid (B3.out.trans (b4.mono B3.out.size))
      clear b4 R3
      have e1 : ∀ w : World, (Op.equalIn 10000 23 (.agg (arr (frm b odd))) (.agg (arr (frm b odd)))).run Try.prog w = .ok true w := eq_same (frm b odd)
      have TU := Lib.hid (turn_turn (frm b odd) m)
      rw [← OP.out]
      generalize frm b odd = F at *
      have g0 := Qb.cell_by (R4.out.cell 0 (by omega))
      have g1 := Qb.cell_by (R4.out.cell 1 (by omega))
      have g2 := Qb.cell_by (R4.out.cell 2 (by omega))
      have g3 := Qb.cell_by (R4.out.cell 3 (by omega))
      have g4 := Qb.cell_by (R4.out.cell 4 (by omega))
      have g5 := Qb.cell_by (R4.out.cell 5 (by omega))
      have g6 := Qb.cell_by (R4.out.cell 6 (by omega))
      have g7 := Qb.cell_by (R4.out.cell 7 (by omega))
      have g8 := Qb.cell_by (R4.out.cell 8 (by omega))
      have g9 := Qb.cell_by (R4.out.cell 9 (by omega))
      have g10 := Qb.cell_by (R4.out.cell 10 (by omega))
      have e2 : ∀ w : World, (Op.equalIn 10000 23 (.agg (arr F)) (.agg #[.bool (F 0), .bool (F 1), .bool (F 2), .bool (F 3), .bool (F 4), .bool (F 5), .bool (F 6), .bool (F 7), .bool (F 8), .bool (F 9), .bool (F 10)])).run Try.prog w = .ok true w := e1
      clear e1
      by_cases hc : cc % 2 = 1
      all_goals
        first
          | (rw [decide_eq_true hc]; have ht : (cc : Int).tmod 2 = 1 := by rw [Int.tmod_eq_emod_of_nonneg (by omega)]; omega)
          | (rw [decide_eq_false hc]; have ht : (cc : Int).tmod 2 = 0 := by rw [Int.tmod_eq_emod_of_nonneg (by omega)]; omega)
        clear hc
        cases odd
        all_goals
          go_wp2_with fail
          refine Qb.wp_region_by (by kernel_rfl) (by kernel_rfl) ?_
          repeat (quiet_step ((first
            | (go_at_call 7; exact Qb.of_below (awake_any _))
            | (go_at_call 10; (with_reducible exact Qb.of_below (at_frame TU.out (turn_any _ (turn F m 11) m))))
            | (go_at_call 10; exact Qb.of_below (turn_any _ F m)))))
          refine wpQuiet_nil ?_
          intro _ hw'
          obtain ⟨p, rfl⟩ := hw'
          go_wp2
          go_ret
          exact ⟨rfl, B4.out.trans (p.below.mono B4.out.size)⟩

end Go.Proofs.Ytdejichhiceaiaa.Ua
