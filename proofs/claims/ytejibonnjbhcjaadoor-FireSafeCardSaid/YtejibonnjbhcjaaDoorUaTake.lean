/- uart.Take: a frame's byte, and whether its parity is odd. -/
import Derived.Test.YtejibonnjbhcjaaDoorUaSmall
namespace Go.Proofs.YtejibonnjbhcjaaDoor.Ua
open Go.RowKit

theorem ret_three {a b : Int} {p q : Bool} {c d : Int} {k : IntKind} (h1 : a = b) (h2 : p = q) (h3 : c = d) : Ending.returned (.tuple #[.int k a, .bool p, .int .i64 c]) = .returned (.tuple #[.int k b, .bool q, .int .i64 d]) := by rw [h1, h2, h3]
theorem of_bad {F : Nat → Bool} (h : bad F = true) : 0 = tb F ∧ false = tp F ∧ 2 = te F := by unfold tb tp te; rw [h]; exact ⟨rfl, rfl, rfl⟩
theorem of_good {F : Nat → Bool} (h : bad F = false) : (val F 8 : Int) = tb F ∧ par F 9 = tp F ∧ 0 = te F := by unfold tb tp te; rw [h]; exact ⟨rfl, rfl, rfl⟩

set_option maxHeartbeats 400000 in
theorem take_bad (w : World) (F : Nat → Bool) (hb : bad F = true) : Calls Tryd.prog 14 #[.agg (arr F)] w fun e w' => e = .returned (.tuple #[.int .u8 (tb F), .bool (tp F), .int .i64 (te F)]) ∧ Below w.heap.size w w' := by
  have R0 := Lib.hid (Row.new w F)
  have B0 := Lib.hid ((Below.refl w.heap.size w).alloc (Nat.le_refl _) (.cells (arr F) 23))
  have c0 := R0.out.cell 0 (by omega)
  have c10 := R0.out.cell 10 (by omega)
  have OB := Lib.hid (of_bad hb)
  unfold bad at hb
  cases h0 : F 0 with
  | true =>
    rw [h0] at c0
    clear hb
    go_enter Tryd.func14, Tryd.ntmps14
    go_wp2
    go_ret3
    exact ⟨ret_three OB.out.1 OB.out.2.1 OB.out.2.2, B0.out⟩
  | false =>
    have h10 : F 10 = false := by rw [h0] at hb; simpa using hb
    rw [h0] at c0
    rw [h10] at c10
    clear hb
    go_enter Tryd.func14, Tryd.ntmps14
    go_wp2
    go_ret3
    exact ⟨ret_three OB.out.1 OB.out.2.1 OB.out.2.2, B0.out⟩

set_option maxHeartbeats 400000 in
theorem take_good (w : World) (F : Nat → Bool) (hb : bad F = false) : Calls Tryd.prog 14 #[.agg (arr F)] w fun e w' => e = .returned (.tuple #[.int .u8 (tb F), .bool (tp F), .int .i64 (te F)]) ∧ Below w.heap.size w w' := by
  have R0 := Lib.hid (Row.new w F)
  have B0 := Lib.hid ((Below.refl w.heap.size w).alloc (Nat.le_refl _) (.cells (arr F) 23))
  have c0 := R0.out.cell 0 (by omega)
  have c10 := R0.out.cell 10 (by omega)
  have OB := Lib.hid (of_good hb)
  unfold bad at hb
  simp at hb
  obtain ⟨h0, h10⟩ := hb
  rw [h0] at c0
  rw [h10] at c10
  clear h0 h10
  go_enter Tryd.func14, Tryd.ntmps14
  go_wp2
  go_loop [2, 5] (fun x i => ∃ k : Nat, k ≤ 8 ∧ i = .int .i64 (k + 1 : Nat) ∧ x = .int .u8 (val F k : Nat)) (fun _ i => 9 - (intOf i).toNat)
  case atStart => exact ⟨0, by omega, rfl, rfl⟩
  case round =>
    obtain ⟨k, hk, rfl, rfl⟩ := hrel
    by_cases hlt : k < 8
    · have c := R0.out.cell (k + 1) (by omega)
      have hv := val_lt F k
      cases hF : F (k + 1) with
      | true =>
        rw [hF] at c
        have E := Lib.hid (or_bit (val F k) k hlt hv)
        have V : Hid (val F (k + 1) = val F k + 2 ^ k) := by show val F (k + 1) = _; rw [val, hF]; rfl
        clear hF hv
        go_wp2_with fail
        refine (place_any _ k hlt).mono ?_
        rintro e w' ⟨rfl, rfl⟩
        go_wp2
        go_round
        case rel => exact ⟨k + 1, by omega, by go_num, by rw [V.out, E.out]⟩
        case measure => simp [intOf]; omega
      | false =>
        rw [hF] at c
        have V : Hid (val F (k + 1) = val F k) := by show val F (k + 1) = _; rw [val, hF]; rfl
        clear hF hv
        go_wp2
        go_round
        case rel => exact ⟨k + 1, by omega, by go_num, by rw [V.out]⟩
        case measure => simp [intOf]; omega
    · obtain rfl : k = 8 := by omega
      go_wp2_with (refine wpList_load_row rfl 23 _ rfl _ rfl _ _ _ _ R0.out Tryd.underlying23 rfl (info_of _) ?_)
      refine (isOdd_any _ _).mono ?_
      rintro e w1 ⟨rfl, b1⟩
      have B1 := Lib.hid (B0.out.trans (b1.mono B0.out.size))
      clear b1
      go_wp2
      go_ret3
      exact ⟨ret_three OB.out.1 OB.out.2.1 OB.out.2.2, B1.out⟩

theorem take_any (w : World) (F : Nat → Bool) : Calls Tryd.prog 14 #[.agg (arr F)] w fun e w' => e = .returned (.tuple #[.int .u8 (tb F), .bool (tp F), .int .i64 (te F)]) ∧ Below w.heap.size w w' := by
  cases h : bad F with
  | true => exact take_bad w F h
  | false => exact take_good w F h

end Go.Proofs.YtejibonnjbhcjaaDoor.Ua
