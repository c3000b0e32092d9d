/- The fixed fact of layer 3: that it is true. -/
import Derived.Test.YtdejichhiceaiaaUaRef
namespace Go.Proofs.Ytdejichhiceaiaa.Ua
open Go.RowKit

/-- Two frames that are one are equal to Go. -/
theorem key_arr (F : Nat → Bool) : ∃ l, keyOf Try.prog 23 (.agg (arr F)) = some l := Option.isSome_iff_exists.1 (by kernel_rfl)
theorem eq_same (F : Nat → Bool) (w : World) : (Op.equalIn 10000 23 (.agg (arr F)) (.agg (arr F))).run Try.prog w = .ok true w := by
  obtain ⟨l, hl⟩ := key_arr F
  obtain ⟨r, hr, hiff⟩ := run_equal_deep (P := Try.prog) w (m := 2) (by omega) (by kernel_rfl) (by kernel_rfl) hl hl
  rw [hiff.2 rfl] at hr
  exact hr

theorem at_frame {P : Program} {f : Nat} {args : Array Value} {w : World} {F G : Nat → Bool} (e : ∀ i, i < 11 → F i = G i) (c : Calls P f args w fun e w' => e = .returned (.agg (arr F)) ∧ Below w.heap.size w w') : Calls P f args w fun e w' => e = .returned (.agg (arr G)) ∧ Below w.heap.size w w' := by rw [← arr_congr e]; exact c
theorem at_three {P : Program} {f : Nat} {args : Array Value} {w : World} {a c a' c' : Int} {p b' : Bool} (e1 : a = a') (e2 : p = b') (e3 : c = c') (h : Calls P f args w fun e w' => e = .returned (.tuple #[.int .u8 a, .bool p, .int .i64 c]) ∧ Below w.heap.size w w') :
    Calls P f args w fun e w' => e = .returned (.tuple #[.int .u8 a', .bool b', .int .i64 c']) ∧ Below w.heap.size w w' := by rw [← e1, ← e2, ← e3]; exact h

/-- The document's example. -/
def ex : Nat → Bool := fun i => i = 1 || i = 9 || i = 10
theorem frm_ex (i : Nat) (h : i < 11) : frm 1 false i = ex i := by
  rcases (by omega : i = 0 ∨ i = 1 ∨ i = 2 ∨ i = 3 ∨ i = 4 ∨ i = 5 ∨ i = 6 ∨ i = 7 ∨ i = 8 ∨ i = 9 ∨ i = 10) with rfl | rfl | rfl | rfl | rfl | rfl | rfl | rfl | rfl | rfl | rfl <;> decide +kernel
theorem bad_ex : bad (turn ex 1 11) = true := by decide +kernel

set_option maxHeartbeats 400000 in
theorem awake_any (w : World) : Calls Try.prog 7 #[] w fun e w' => e = .returned (.bool true) ∧ Below w.heap.size w w' := by
  have es : ∀ w : World, (Op.equalIn 10000 23 (.agg (arr ex)) (.agg #[.bool false, .bool true, .bool false, .bool false, .bool false, .bool false, .bool false, .bool false, .bool false, .bool true, .bool true])).run Try.prog w = .ok true w := fun w => eq_same ex w
  go_enter Try.func7, Try.ntmps7
  go_wp2_with fail
  refine (at_frame frm_ex (put_any _ 1 false (by omega) (by omega))).mono ?_
  rintro e w1 ⟨rfl, b1⟩
  have B1 := Lib.hid (b1.alloc b1.size (.cells (arr ex) 23))
  have R1 := Lib.hid (Row.new w1 ex)
  clear b1
  go_wp2_with ((with_reducible refine store_new (o := ⟨none, _, _, _, _, _⟩) rfl _ _ rfl ex ?_ ?_ ?_); (exact rfl); (exact rfl))
  refine (put_any _ 85 true (by omega) (by omega)).mono ?_
  rintro e w2 ⟨rfl, b2⟩
  have R2 := Lib.hid (R1.out.below b2 R1.out.lt)
  have B2 := Lib.hid (B1.out.trans (b2.mono B1.out.size))
  clear b2 R1
  go_wp2_with fail
  refine (at_three (tb_frm 85 true (by omega) (by omega)) (tp_frm 85 true) (te_frm 85 true) (take_any _ (frm 85 true))).mono ?_
  rintro e w3 ⟨rfl, b3⟩
  have R3 := Lib.hid (R2.out.below b3 R2.out.lt)
  have B3 := Lib.hid (B2.out.trans (b3.mono B2.out.size))
  clear b3 R2
  go_wp2_with ((with_reducible refine load_frame (o := ⟨some 16, _, _, _, _, _⟩) rfl _ rfl _ _ ?_ R3.out ?_); (exact rfl))
  refine (turn_any _ ex 1).mono ?_
  rintro e w4 ⟨rfl, b4⟩
  have R4 := Lib.hid (R3.out.below b4 R3.out.lt)
  have B4 := Lib.hid (B3.out.trans (b4.mono B3.out.size))
  clear b4 R3
  have OB := Lib.hid (of_bad bad_ex)
  go_wp2_with fail
  refine (at_three OB.out.1.symm OB.out.2.1.symm OB.out.2.2.symm (take_any _ (turn ex 1 11))).mono ?_
  rintro e w5 ⟨rfl, b5⟩
  have R5 := Lib.hid (R4.out.below b5 R4.out.lt)
  have B5 := Lib.hid (B4.out.trans (b5.mono B4.out.size))
  clear b5 R4
  go_wp2_with ((with_reducible refine load_frame (o := ⟨some 22, _, _, _, _, _⟩) rfl _ rfl _ _ ?_ R5.out ?_); (exact rfl))
  go_ret
  exact ⟨rfl, B5.out⟩

end Go.Proofs.Ytdejichhiceaiaa.Ua
