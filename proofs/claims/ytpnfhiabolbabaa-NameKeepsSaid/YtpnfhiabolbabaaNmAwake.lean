/- The fixed fact of layer 17. -/
import Derived.Test.YtpnfhiabolbabaaNmAssign
namespace Go.Proofs.Ytpnfhiabolbabaa.Nm
open Go.RowKit
open Go.Proofs.Ytpnfhiabolbabaa.Rw (Rd Ow At)
open Go.Proofs.Ytpnfhiabolbabaa.Fl (ret_bool at_bool row_cell)

def l0 : List S := [(9, 0), (4, 0), (7, 1)]
def l1 : List S := [(9, 3), (4, 2), (7, 1)]
def l2 : List S := [(1, 0), (1, 0)]
theorem fit0 : Fit l0 := by unfold Fit; decide
theorem fit2 : Fit l2 := by unfold Fit; decide
theorem gd0 : Gd l0 := ⟨by decide, by unfold okP; decide⟩
theorem gd2 : ¬ Gd l2 := fun g => (g.ok 1 (by decide)).2 0 (by decide) (.inl rfl)
theorem as0 : asg (l0.length + 1) l0 254 = (l1, 0) := by decide +kernel
theorem as1 : (asg (l0.length + 1) l0 2).2 = 11 := by decide +kernel
theorem fr0 : fr l0 9 = 2 := by decide +kernel
theorem ls0 : ls l0 = 1 := by decide +kernel

set_option maxHeartbeats 2000000 in
theorem awake_any (w : World) : Calls Try.prog 8 #[] w fun e w' => e = .returned (.bool true) ∧ Below w.heap.size w w' := by
  have P1 : Hid (∀ w v, Rd KV w v l0 → Calls Try.prog 9 #[v, .int .i64 254] w fun e w' => ∃ u, e = .returned (.tuple #[u, .int .i64 0]) ∧ Rd KV w' u l1 ∧ Below w.heap.size w w') := Lib.hid (fun w v R => (assign_any w v l0 R fit0 (by decide) 254).mono fun e w' ⟨u, he, hu, hb⟩ => ⟨u, by rw [he]; unfold asE; rw [as0], by unfold asL at hu; rw [as0] at hu; exact hu.rd, hb⟩)
  have P2 : Hid (∀ w v, Rd KV w v l0 → Calls Try.prog 9 #[v, .int .i64 2] w fun e w' => ∃ u, e = .returned (.tuple #[u, .int .i64 11]) ∧ (∃ l, Rd KV w' u l) ∧ Below w.heap.size w w') := Lib.hid (fun w v R => (assign_any w v l0 R fit0 (by decide) 2).mono fun e w' ⟨u, he, hu, hb⟩ => ⟨u, by rw [he]; unfold asE; rw [as1], ⟨_, hu.rd⟩, hb⟩)
  have P3 : Hid (∀ w v, Rd KV w v l0 → Calls Try.prog 13 #[v] w fun e w' => e = .returned (.tuple #[.int .u64 4, .bool true]) ∧ Below w.heap.size w w') := Lib.hid (fun w v R => (least_any w v l0 R).mono fun e w' ⟨he, hb⟩ => ⟨by rw [he]; unfold lsP; rw [ls0]; rfl, hb⟩)
  have P4 : Hid (∀ w v, Rd KV w v l0 → Calls Try.prog 11 #[v, .int .i64 9] w fun e w' => e = .returned (.tuple #[.int .i64 2, .bool true]) ∧ Below w.heap.size w w') := Lib.hid (fun w v R => (free_any w v l0 R fit0 9).mono fun e w' ⟨he, hb⟩ => ⟨by rw [he]; unfold frB; rw [fr0]; rfl, hb⟩)
  have P5 : Hid (∀ w v u, Rd KV w v l1 → Rd KV w u l1 → Calls Try.prog 15 #[v, u] w fun e w' => e = .returned (.bool true) ∧ Below w.heap.size w w') := Lib.hid (fun w v u R R' => at_bool (show sameB l1 l1 = true by decide) (rsame_any w v u l1 l1 R R'))
  have P6 : Hid (∀ w v, Rd KV w v l0 → Calls Try.prog 6 #[v] w fun e w' => e = .returned (.bool true) ∧ Below w.heap.size w w') := Lib.hid (fun w v R => at_bool (gdB_yes gd0) (good_any w v l0 R fit0))
  have P7 : Hid (∀ w v, Rd KV w v l2 → Calls Try.prog 6 #[v] w fun e w' => e = .returned (.bool false) ∧ Below w.heap.size w w') := Lib.hid (fun w v R => at_bool (gdB_no gd2) (good_any w v l2 R fit2))
  have L0 : Hid (∀ W : World, Rd KV (W.alloc (.cells #[.int .u64 9, .int .i64 0, .int .u64 4, .int .i64 0, .int .u64 7, .int .i64 1] 41)) (.slice (some ⟨W.heap.size, 0, none⟩) 3 3) l0) := Lib.hid (fun W => (Rw.Ow.lit (K := KV) W W.heap.size 41 l0 (Nat.le_refl _) (by unfold maxLen l0; simp)).rd)
  have L1 : Hid (∀ W : World, Rd KV (W.alloc (.cells #[.int .u64 9, .int .i64 3, .int .u64 4, .int .i64 2, .int .u64 7, .int .i64 1] 41)) (.slice (some ⟨W.heap.size, 0, none⟩) 3 3) l1) := Lib.hid (fun W => (Rw.Ow.lit (K := KV) W W.heap.size 41 l1 (Nat.le_refl _) (by unfold maxLen l1; simp)).rd)
  have L2 : Hid (∀ W : World, Rd KV (W.alloc (.cells #[.int .u64 1, .int .i64 0, .int .u64 1, .int .i64 0] 41)) (.slice (some ⟨W.heap.size, 0, none⟩) 2 2) l2) := Lib.hid (fun W => (Rw.Ow.lit (K := KV) W W.heap.size 41 l2 (Nat.le_refl _) (by unfold maxLen l2; simp)).rd)
  have BL : Hid (∀ (W : World) o, Below W.heap.size W (W.alloc o)) := Lib.hid (fun W o => (Below.refl _ _).alloc (Nat.le_refl _) o)
  go_enter Try.func8, Try.ntmps8
  go_upto_region 2 with fail
  have R0 := Lib.hid (L0.out w)
  have B0 := Lib.hid (BL.out w (.cells #[.int .u64 9, .int .i64 0, .int .u64 4, .int .i64 0, .int .u64 7, .int .i64 1] 41))
  generalize w.alloc (.cells #[.int .u64 9, .int .i64 0, .int .u64 4, .int .i64 0, .int .u64 7, .int .i64 1] 41) = W0 at *

  clear L0
  go_wp2_with fail
  refine (P1.out _ _ R0.out).mono ?_
  rintro e w1 ⟨u1, rfl, r1, b1⟩
  obtain ⟨a1, n1, k1, rfl⟩ : ∃ a n c, u1 = .slice a n c := by obtain ⟨a, c, e, _⟩ := r1; exact ⟨a, _, c, e⟩
  have B1 := Lib.hid (B0.out.trans (b1.mono B0.out.size))
  have R1 := Lib.hid (R0.out.below b1)
  have A1 := Lib.hid r1
  clear b1 B0 R0 r1 P1
  go_wp2_with fail
  refine (P2.out _ _ R1.out).mono ?_
  rintro e w2 ⟨u2, rfl, ⟨l2', r2⟩, b2⟩
  obtain ⟨a2, n2, k2, rfl⟩ : ∃ a n c, u2 = .slice a n c := by obtain ⟨a, c, e, _⟩ := r2; exact ⟨a, _, c, e⟩
  have B2 := Lib.hid (B1.out.trans (b2.mono B1.out.size))
  have R2 := Lib.hid (R1.out.below b2)
  have A2 := Lib.hid (A1.out.below b2)
  clear b2 B1 R1 A1 r2 P2
  go_wp2_with fail
  refine (P3.out _ _ R2.out).mono ?_
  rintro e w3 ⟨rfl, b3⟩
  have B3 := Lib.hid (B2.out.trans (b3.mono B2.out.size))
  have R3 := Lib.hid (R2.out.below b3)
  have A3 := Lib.hid (A2.out.below b3)
  clear b3 B2 R2 A2 P3
  go_wp2_with fail
  refine (P4.out _ _ R3.out).mono ?_
  rintro e w4 ⟨rfl, b4⟩
  have B4 := Lib.hid (B3.out.trans (b4.mono B3.out.size))
  have R4 := Lib.hid (R3.out.below b4)
  have A4 := Lib.hid (A3.out.below b4)
  clear b4 B3 R3 A3 P4
  go_wp2_with fail
  have b5 := BL.out w4 (.cells #[.int .u64 9, .int .i64 3, .int .u64 4, .int .i64 2, .int .u64 7, .int .i64 1] 41)
  have B5 := Lib.hid (B4.out.trans (b5.mono B4.out.size))
  have R5 := Lib.hid (R4.out.below b5)
  have A5 := Lib.hid (A4.out.below b5)
  have Q5 := Lib.hid (L1.out w4)
  clear b5 B4 R4 A4 L1
  generalize w4.alloc (.cells #[.int .u64 9, .int .i64 3, .int .u64 4, .int .i64 2, .int .u64 7, .int .i64 1] 41) = W5 at *
  refine (P5.out _ _ _ A5.out Q5.out).mono ?_
  rintro e w6 ⟨rfl, b6⟩
  have B6 := Lib.hid (B5.out.trans (b6.mono B5.out.size))
  have R6 := Lib.hid (R5.out.below b6)
  clear b6 B5 R5 A5 Q5 P5
  go_wp2_with fail
  refine (P6.out _ _ R6.out).mono ?_
  rintro e w7 ⟨rfl, b7⟩
  have B7 := Lib.hid (B6.out.trans (b7.mono B6.out.size))
  clear b7 B6 R6 P6
  go_wp2_with fail
  have b8 := BL.out w7 (.cells #[.int .u64 1, .int .i64 0, .int .u64 1, .int .i64 0] 41)
  have B8 := Lib.hid (B7.out.trans (b8.mono B7.out.size))
  have Q8 := Lib.hid (L2.out w7)
  clear b8 B7 L2
  generalize w7.alloc (.cells #[.int .u64 1, .int .i64 0, .int .u64 1, .int .i64 0] 41) = W8 at *
  refine (P7.out _ _ Q8.out).mono ?_
  rintro e w9 ⟨rfl, b9⟩
  have B9 := Lib.hid (B8.out.trans (b9.mono B8.out.size))
  clear b9 B8 Q8 P7
  go_wp2
  go_ret
  exact ⟨rfl, B9.out⟩

end Go.Proofs.Ytpnfhiabolbabaa.Nm
