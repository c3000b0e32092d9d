/- The fixed fact of layer 11. -/
import Derived.Test.YtchbccaokoiodaaRoSame
import Derived.Test.YtchbccaokoiodaaRoTab
import Derived.Test.YtchbccaokoiodaaRoFile
namespace Go.Proofs.Ytchbccaokoiodaa.Ro
open Go.RowKit
open Go.Proofs.Ytchbccaokoiodaa.Rw (Rd Ow At)
open Go.Proofs.Ytchbccaokoiodaa.Fl (R4 z4 rec4 K4 okR hdr rat file ret_bool at_bool row_cell row_frozen eq_rec)

def x0 : E5 := (1, 3, 9, 5, 2)
theorem may_one : mayP [x0] := by decide
theorem may_two : ¬ mayP [x0, x0] := by decide

set_option maxHeartbeats 2000000 in
theorem awake_any (w : World) : Calls Try.prog 10 #[] w fun e w' => e = .returned (.bool true) ∧ Below w.heap.size w w' := by
  have E1 : ∀ w, (Op.equalIn 10000 25 (.agg #[.int .u8 129, .int .u8 3, .int .u8 9, .int .u8 5]) (.agg #[.int .u8 129, .int .u8 3, .int .u8 9, .int .u8 5])).run Try.prog w = .ok true w := fun w => eq_rec (129, 3, 9, 5) (129, 3, 9, 5) w
  have E2 : ∀ w, (Op.equalIn 10000 23 (.agg #[.int .i64 1, .int .i64 3, .int .i64 9, .int .i64 5, .int .i64 2]) (.agg #[.int .i64 1, .int .i64 3, .int .i64 9, .int .i64 5, .int .i64 2])).run Try.prog w = .ok true w := fun w => eq_ent x0 x0 w
  have P1 : Hid (∀ w, Calls Try.prog 6 #[.agg #[.int .i64 1, .int .i64 3, .int .i64 9, .int .i64 5, .int .i64 2]] w fun e w' => e = .returned (.tuple #[.agg #[.int .u8 129, .int .u8 3, .int .u8 9, .int .u8 5], .int .i64 0]) ∧ Below w.heap.size w w') := Lib.hid (fun w => by
    have := put_any w x0
    rw [show putR x0 = (129, 3, 9, 5) by decide, show putN x0 = 0 by decide] at this
    exact this)
  have P2 : Hid (∀ w, Calls Try.prog 8 #[.agg #[.int .u8 129, .int .u8 3, .int .u8 9, .int .u8 5]] w fun e w' => e = .returned (.tuple #[.agg #[.int .i64 1, .int .i64 3, .int .i64 9, .int .i64 5, .int .i64 2], .int .i64 0]) ∧ Below w.heap.size w w') := Lib.hid (fun w => by
    have := take_any w (129, 3, 9, 5) ⟨⟨by decide, by decide⟩, ⟨by decide, by decide⟩, ⟨by decide, by decide⟩, by decide, by decide⟩
    rw [show takeE (129, 3, 9, 5) = x0 by decide, show takeN (129, 3, 9, 5) = 0 by decide] at this
    exact this)
  have P3 : Hid (∀ w v, Rd K5 w v [x0] → Calls Try.prog 16 #[v] w fun e w' => ∃ u, e = .returned (.tuple #[.agg #[.int .i64 3, u], .int .i64 0]) ∧ Rd K4 w' u (fileL [x0]) ∧ Below w.heap.size w w') := Lib.hid (fun w v R => (file_any w v [x0] R).mono fun e w' ⟨u, he, hu, hb⟩ => ⟨u, by rw [he]; unfold fP fN; rw [if_pos may_one, if_pos may_one]; rfl, by unfold fL at hu; rw [if_pos may_one] at hu; exact hu, hb⟩)
  have P4 : Hid (∀ w v, Rd K4 w v (fileL [x0]) → Calls Try.prog 13 #[.agg #[.int .i64 3, v]] w fun e w' => ∃ u, e = .returned (.tuple #[u, .int .i64 0]) ∧ Rd K5 w' u [x0] ∧ Below w.heap.size w w') := Lib.hid (fun w v R => (table_any w 3 v (fileL [x0]) R (by have := @ok_file [x0]; unfold fL at this; rw [if_pos may_one] at this; exact this)).mono fun e w' ⟨u, he, hu, hb⟩ => ⟨u, by rw [he, (tab_file may_one).2], by rw [(tab_file may_one).1] at hu; exact hu, hb⟩)
  have P5 : Hid (∀ w v, Rd K5 w v [x0, x0] → Calls Try.prog 16 #[v] w fun e w' => ∃ u, e = .returned (.tuple #[.agg #[.int .i64 0, u], .int .i64 1]) ∧ Rd K4 w' u [] ∧ Below w.heap.size w w') := Lib.hid (fun w v R => (file_any w v [x0, x0] R).mono fun e w' ⟨u, he, hu, hb⟩ => ⟨u, by rw [he]; unfold fP fN; rw [if_neg may_two, if_neg may_two]; rfl, by unfold fL at hu; rw [if_neg may_two] at hu; exact hu, hb⟩)
  have P6 : Hid (∀ w v u, Rd K5 w v [x0] → Rd K5 w u [x0] → Calls Try.prog 19 #[v, u] w fun e w' => e = .returned (.bool true) ∧ Below w.heap.size w w') := Lib.hid (fun w v u R R' => at_bool (show sameB [x0] [x0] = true by decide) (rsame_any w v u [x0] [x0] R R'))
  have L1 : Hid (∀ W : World, Rd K5 (W.alloc (.cells #[.int .i64 1, .int .i64 3, .int .i64 9, .int .i64 5, .int .i64 2] 23)) (.slice (some ⟨W.heap.size, 0, none⟩) 1 1) [x0]) := Lib.hid (fun W => (Rw.Ow.lit (K := K5) W W.heap.size 23 [x0] (Nat.le_refl _) (by unfold maxLen; simp)).rd)
  have L2 : Hid (∀ W : World, Rd K5 (W.alloc (.cells #[.int .i64 1, .int .i64 3, .int .i64 9, .int .i64 5, .int .i64 2, .int .i64 1, .int .i64 3, .int .i64 9, .int .i64 5, .int .i64 2] 23)) (.slice (some ⟨W.heap.size, 0, none⟩) 2 2) [x0, x0]) := Lib.hid (fun W => (Rw.Ow.lit (K := K5) W W.heap.size 23 [x0, x0] (Nat.le_refl _) (by unfold maxLen; simp)).rd)
  have BA : Hid (∀ (W W' : World) o, Below w.heap.size w W → Below W.heap.size W W' → Below w.heap.size w (W'.alloc o)) := Lib.hid (fun W W' o h h' => (h.trans (h'.mono h.size)).alloc (Nat.le_trans h.size h'.size) o)
  have BL : Hid (∀ (W : World) o, Below W.heap.size W (W.alloc o)) := Lib.hid (fun W o => (Below.refl _ _).alloc (Nat.le_refl _) o)
  go_enter Try.func10, Try.ntmps10
  go_upto_region 2 with fail
  have B0 := Lib.hid (BA.out w w (.cells #[.int .i64 1, .int .i64 3, .int .i64 9, .int .i64 5, .int .i64 2] 23) (Below.refl _ _) (Below.refl _ _))
  have X0 := heap_alloc_new w (.cells #[.int .i64 1, .int .i64 3, .int .i64 9, .int .i64 5, .int .i64 2] 23)
  generalize w.alloc (.cells #[.int .i64 1, .int .i64 3, .int .i64 9, .int .i64 5, .int .i64 2] 23) = W0 at *
  have c0 : W0.cell? ⟨w.heap.size, 0, none⟩ = some (.int .i64 1) := row_cell X0 0
  have c1 : W0.cell? ⟨w.heap.size, 1, none⟩ = some (.int .i64 3) := row_cell X0 1
  have c2 : W0.cell? ⟨w.heap.size, 2, none⟩ = some (.int .i64 9) := row_cell X0 2
  have c3 : W0.cell? ⟨w.heap.size, 3, none⟩ = some (.int .i64 5) := row_cell X0 3
  have c4 : W0.cell? ⟨w.heap.size, 4, none⟩ = some (.int .i64 2) := row_cell X0 4
  go_wp2_with fail
  refine (P1.out _).mono ?_
  rintro e w1 ⟨rfl, b1⟩
  clear c0 c1 c2 c3 c4
  go_upto_region 3 with fail
  have b1' := b1.alloc b1.size (.cells #[.int .u8 129, .int .u8 3, .int .u8 9, .int .u8 5] 25)
  have B1 := Lib.hid (B0.out.trans (b1'.mono B0.out.size))
  have X1 := (b1'.block _ (lt_of_block X0)).trans X0
  have V1 := heap_alloc_new w1 (.cells #[.int .u8 129, .int .u8 3, .int .u8 9, .int .u8 5] 25)
  generalize w1.alloc (.cells #[.int .u8 129, .int .u8 3, .int .u8 9, .int .u8 5] 25) = W1 at *
  generalize w1.heap.size = gv at *
  have d0 : W1.cell? ⟨gv, 0, none⟩ = some (.int .u8 129) := row_cell V1 0
  have d1 : W1.cell? ⟨gv, 1, none⟩ = some (.int .u8 3) := row_cell V1 1
  have d2 : W1.cell? ⟨gv, 2, none⟩ = some (.int .u8 9) := row_cell V1 2
  have d3 : W1.cell? ⟨gv, 3, none⟩ = some (.int .u8 5) := row_cell V1 3
  clear b1 b1' B0 X0 P1
  go_wp2_with fail
  refine (P2.out _).mono ?_
  rintro e w2 ⟨rfl, b2⟩
  clear d0 d1 d2 d3
  go_upto_region 4 with fail
  have b2' := b2.alloc b2.size (.cells #[.int .i64 1, .int .i64 3, .int .i64 9, .int .i64 5, .int .i64 2] 23)
  have B2 := Lib.hid (B1.out.trans (b2'.mono B1.out.size))
  have X2 := (b2'.block _ (lt_of_block X1)).trans X1
  have V2 := (b2'.block _ (lt_of_block V1)).trans V1
  have Y2 := heap_alloc_new w2 (.cells #[.int .i64 1, .int .i64 3, .int .i64 9, .int .i64 5, .int .i64 2] 23)
  generalize w2.alloc (.cells #[.int .i64 1, .int .i64 3, .int .i64 9, .int .i64 5, .int .i64 2] 23) = W2 at *
  generalize w2.heap.size = gy at *
  have c0 : W2.cell? ⟨w.heap.size, 0, none⟩ = some (.int .i64 1) := row_cell X2 0
  have c1 : W2.cell? ⟨w.heap.size, 1, none⟩ = some (.int .i64 3) := row_cell X2 1
  have c2 : W2.cell? ⟨w.heap.size, 2, none⟩ = some (.int .i64 9) := row_cell X2 2
  have c3 : W2.cell? ⟨w.heap.size, 3, none⟩ = some (.int .i64 5) := row_cell X2 3
  have c4 : W2.cell? ⟨w.heap.size, 4, none⟩ = some (.int .i64 2) := row_cell X2 4
  clear b2 b2' B1 X1 V1 P2
  go_wp2_with fail
  refine (P3.out _ _ (L1.out _)).mono ?_
  rintro e w3 ⟨u3, rfl, r3, b3⟩
  obtain ⟨a3, n3, k3, rfl⟩ : ∃ a n c, u3 = .slice a n c := by obtain ⟨a, c, e, _⟩ := r3; exact ⟨a, _, c, e⟩
  clear c0 c1 c2 c3 c4
  go_upto_region 5 with fail
  have b3' := (BL.out W2 (.cells #[.int .i64 1, .int .i64 3, .int .i64 9, .int .i64 5, .int .i64 2] 23)).trans ((b3.alloc b3.size (.cells #[.int .i64 3, .slice a3 n3 k3] 40)).mono (by simp))
  have B3 := Lib.hid (B2.out.trans (b3'.mono B2.out.size))
  have X3 := (b3'.block _ (lt_of_block X2)).trans X2
  have V3 := (b3'.block _ (lt_of_block V2)).trans V2
  have Y3 := (b3'.block _ (lt_of_block Y2)).trans Y2
  have F3 := heap_alloc_new w3 (.cells #[.int .i64 3, .slice a3 n3 k3] 40)
  have R3 := Lib.hid (r3.below (BL.out w3 (.cells #[.int .i64 3, .slice a3 n3 k3] 40)))
  generalize w3.alloc (.cells #[.int .i64 3, .slice a3 n3 k3] 40) = W3 at *
  generalize w3.heap.size = gf at *
  have c0 : W3.cell? ⟨gf, 0, none⟩ = some (.int .i64 3) := row_cell F3 0
  have c1 : W3.cell? ⟨gf, 1, none⟩ = some (.slice a3 n3 k3) := row_cell F3 1
  clear b3 b3' B2 X2 V2 Y2 P3 r3
  go_wp2_with fail
  refine (P4.out _ _ R3.out).mono ?_
  rintro e w4 ⟨u4, rfl, r4, b4⟩
  obtain ⟨a4, n4, k4, rfl⟩ : ∃ a n c, u4 = .slice a n c := by obtain ⟨a, c, e, _⟩ := r4; exact ⟨a, _, c, e⟩
  clear c0 c1
  go_upto_region 6 with fail
  have B4 := Lib.hid (B3.out.trans (b4.mono B3.out.size))
  have X4 := (b4.block _ (lt_of_block X3)).trans X3
  have V4 := (b4.block _ (lt_of_block V3)).trans V3
  have Y4 := (b4.block _ (lt_of_block Y3)).trans Y3
  have R4 := Lib.hid r4
  have c0 : w4.cell? ⟨w.heap.size, 0, none⟩ = some (.int .i64 1) := row_cell X4 0
  have c1 : w4.cell? ⟨w.heap.size, 1, none⟩ = some (.int .i64 3) := row_cell X4 1
  have c2 : w4.cell? ⟨w.heap.size, 2, none⟩ = some (.int .i64 9) := row_cell X4 2
  have c3 : w4.cell? ⟨w.heap.size, 3, none⟩ = some (.int .i64 5) := row_cell X4 3
  have c4 : w4.cell? ⟨w.heap.size, 4, none⟩ = some (.int .i64 2) := row_cell X4 4
  clear b4 B3 X3 V3 Y3 R3 r4 P4 F3
  go_wp2_with fail
  refine (P5.out _ _ (L2.out _)).mono ?_
  rintro e w5 ⟨u5, rfl, r5, b5⟩
  obtain ⟨a5, n5, k5, rfl⟩ : ∃ a n c, u5 = .slice a n c := by obtain ⟨a, c, e, _⟩ := r5; exact ⟨a, _, c, e⟩
  clear c0 c1 c2 c3 c4
  go_upto_region 7 with fail
  have b5' := (BL.out w4 (.cells #[.int .i64 1, .int .i64 3, .int .i64 9, .int .i64 5, .int .i64 2, .int .i64 1, .int .i64 3, .int .i64 9, .int .i64 5, .int .i64 2] 23)).trans ((b5.alloc b5.size (.cells #[.int .i64 0, .slice a5 n5 k5] 40)).mono (by simp))
  have B5 := Lib.hid (B4.out.trans (b5'.mono B4.out.size))
  have X5 := (b5'.block _ (lt_of_block X4)).trans X4
  have V5 := (b5'.block _ (lt_of_block V4)).trans V4
  have Y5 := (b5'.block _ (lt_of_block Y4)).trans Y4
  have R5 := Lib.hid (R4.out.below b5')
  generalize w5.alloc (.cells #[.int .i64 0, .slice a5 n5 k5] 40) = W5 at *
  have c0 : W5.cell? ⟨w.heap.size, 0, none⟩ = some (.int .i64 1) := row_cell X5 0
  have c1 : W5.cell? ⟨w.heap.size, 1, none⟩ = some (.int .i64 3) := row_cell X5 1
  have c2 : W5.cell? ⟨w.heap.size, 2, none⟩ = some (.int .i64 9) := row_cell X5 2
  have c3 : W5.cell? ⟨w.heap.size, 3, none⟩ = some (.int .i64 5) := row_cell X5 3
  have c4 : W5.cell? ⟨w.heap.size, 4, none⟩ = some (.int .i64 2) := row_cell X5 4
  have d0 : W5.cell? ⟨gv, 0, none⟩ = some (.int .u8 129) := row_cell V5 0
  have d1 : W5.cell? ⟨gv, 1, none⟩ = some (.int .u8 3) := row_cell V5 1
  have d2 : W5.cell? ⟨gv, 2, none⟩ = some (.int .u8 9) := row_cell V5 2
  have d3 : W5.cell? ⟨gv, 3, none⟩ = some (.int .u8 5) := row_cell V5 3
  have e0 : W5.cell? ⟨gy, 0, none⟩ = some (.int .i64 1) := row_cell Y5 0
  have e1 : W5.cell? ⟨gy, 1, none⟩ = some (.int .i64 3) := row_cell Y5 1
  have e2 : W5.cell? ⟨gy, 2, none⟩ = some (.int .i64 9) := row_cell Y5 2
  have e3 : W5.cell? ⟨gy, 3, none⟩ = some (.int .i64 5) := row_cell Y5 3
  have e4 : W5.cell? ⟨gy, 4, none⟩ = some (.int .i64 2) := row_cell Y5 4
  clear b5 b5' B4 X4 V4 Y4 R4 r5 P5
  go_wp2_with fail
  refine (P6.out _ _ _ (R5.out.below (BL.out _ _)) (L1.out _)).mono ?_
  rintro e w6 ⟨rfl, b6⟩
  have B6 := Lib.hid (B5.out.trans (((BL.out W5 _).trans (b6.mono (by simp))).mono B5.out.size))
  clear c0 c1 c2 c3 c4 d0 d1 d2 d3 e0 e1 e2 e3 e4 b6
  go_wp2
  go_ret
  exact ⟨rfl, B6.out⟩

end Go.Proofs.Ytchbccaokoiodaa.Ro
