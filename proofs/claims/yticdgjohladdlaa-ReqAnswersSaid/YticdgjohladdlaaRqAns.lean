/- Layer 21: the document's May and Answer: a reply's bytes. -/
import Derived.Test.YticdgjohladdlaaRqPut
import Derived.Test.YticdgjohladdlaaFlSmall
namespace Go.Proofs.Yticdgjohladdlaa.Rq
open Go.RowKit
open Go.Proofs.Yticdgjohladdlaa.Rw (Rd Ow At)
open Go.Proofs.Yticdgjohladdlaa.Fl (R4 z4)
set_option maxRecDepth 100000

set_option maxHeartbeats 4000000 in
theorem rmay_any (w : World) (y : Y) : Calls Try.prog 23 #[yV y] w fun e w' => e = .returned (.bool (mayB y)) ∧ Below w.heap.size w w' := by
  have B0 := Lib.hid ((Below.refl w.heap.size w).alloc (Nat.le_refl _) (.cells (yA y) 40))
  have R0 := Lib.hid (heap_alloc_new w (.cells (yA y) 40))
  obtain ⟨id, e, ⟨v0, v1, v2, v3⟩⟩ := y
  have es := Fl.eq_rec (v0, v1, v2, v3) z4
  unfold yV yA
  unfold yA at B0 R0
  unfold mayB
  unfold z4 at es
  dsimp only at B0 R0 es ⊢
  rcases (by omega : id < 0 ∨ 0 ≤ id ∧ 65535 < id ∨ (0 ≤ id ∧ id ≤ 65535) ∧ (e < 0 ∨ 0 ≤ e ∧ 16 < e ∨ e = 0 ∨ (0 ≤ e ∧ e ≤ 16) ∧ e ≠ 0)) with h | ⟨h1, h⟩ | ⟨⟨h1, h2⟩, h | ⟨h3, h⟩ | rfl | ⟨⟨h3, h4⟩, h5⟩⟩
  all_goals
    go_enter Try.func23, Try.ntmps23
    go_wp2
    go_ret
    exact ⟨ret_bool (by rw [Bool.eq_iff_iff]; simp only [Bool.or_eq_true, Bool.and_eq_true, beq_iff_eq, decide_eq_true_eq, Bool.false_eq_true, true_iff, false_iff]; unfold may; (try dsimp only); omega), B0.out⟩

set_option maxHeartbeats 4000000 in
theorem ranswer_any (w : World) (y : Y) : Calls Try.prog 14 #[yV y] w (AnsPost w y) := by
  have B0 := Lib.hid ((Below.refl w.heap.size w).alloc (Nat.le_refl _) (.cells (yA y) 40))
  have R0 := Lib.hid (heap_alloc_new w (.cells (yA y) 40))
  by_cases hg : may y
  · have GR := Lib.hid (at_bool (show mayB y = true from decide_eq_true hg) (rmay_any (w.alloc (.cells (yA y) 40)) y))
    have E : Hid (∀ v w', Ow KU w' w.heap.size 5 v (yb y) → Below w.heap.size w w' → AnsPost w y (.returned (.tuple #[v, .int .i64 0])) w') := fun v w' o b => ⟨v, by rw [if_pos hg], by rw [if_pos hg]; exact o, b⟩
    obtain ⟨id, e, ⟨v0, v1, v2, v3⟩⟩ := y
    unfold may at hg
    unfold yV at *
    unfold yA at *
    unfold yb at E
    dsimp only at hg B0 R0 GR E ⊢
    obtain ⟨⟨h1, h2⟩, ⟨h3, h4⟩, _⟩ := hg
    have q1 : wrap64 (Int.tdiv id 256) % 256 = id / 256 := by rw [Int.tdiv_eq_ediv_of_nonneg h1]; unfold wrap64; omega
    have q2 : Int.tmod id 256 = id % 256 := Int.tmod_eq_emod_of_nonneg h1
    have q3 := u8_in (x := e) (by omega) (by omega)
    clear h1 h2 h3 h4
    go_enter Try.func14, Try.ntmps14
    go_wp2_with fail
    refine GR.out.mono ?_
    rintro e' w1 ⟨rfl, b1⟩
    have B1 := bTr B0 b1
    have R1 := Lib.hid (bBl b1 R0.out)
    clear b1 B0 GR R0
    have c0 := rc1 R1.out 0
    have c1 := rc1 R1.out 1
    have c2 := rc1 R1.out 2
    have c3 := rc1 R1.out 3
    have c4 := rc1 R1.out 4
    have c5 := rc1 R1.out 5
    have L3 : Hid (Ow KU (w1.alloc (.cells #[.int .u8 0, .int .u8 7, .int .u8 (id / 256), .int .u8 (id % 256), .int .u8 e, .int .u8 v0, .int .u8 v1, .int .u8 v2, .int .u8 v3] 5)) w.heap.size 5 (.slice (some ⟨w1.heap.size, 0, none⟩) 9 9) [0, 7, id / 256, id % 256, e, v0, v1, v2, v3]) := Lib.hid (Rw.Ow.lit (K := KU) w1 w.heap.size 5 [0, 7, id / 256, id % 256, e, v0, v1, v2, v3] B1.out.size (by unfold maxLen; simp))
    have F := Lib.hid (E.out _ _ L3.out (B1.out.alloc B1.out.size _))
    clear E L3 B1 R1
    go_wp2
    go_ret2
    exact F.out
  · have GR := Lib.hid (at_bool (show mayB y = false from decide_eq_false hg) (rmay_any (w.alloc (.cells (yA y) 40)) y))
    have E : Hid (∀ w', Below w.heap.size w w' → AnsPost w y (.returned (.tuple #[.slice none 0 0, .int .i64 1])) w') := fun w' b => ⟨_, by rw [if_neg hg], by rw [if_neg hg]; exact Rw.Ow.nil _ _ _, b⟩
    clear hg R0
    unfold yV at *
    go_enter Try.func14, Try.ntmps14
    unfold yA at *
    go_wp2_with fail
    refine GR.out.mono ?_
    rintro e w1 ⟨rfl, b1⟩
    have B1 := bTr B0 b1
    clear b1 B0 GR
    go_wp2
    go_ret2
    exact E.out _ B1

end Go.Proofs.Yticdgjohladdlaa.Rq
