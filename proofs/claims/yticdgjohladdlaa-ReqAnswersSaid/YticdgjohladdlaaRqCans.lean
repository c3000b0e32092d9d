/- Layer 21: the code's isReply and Answer: a reply's bytes. -/
import Derived.Test.YticdgjohladdlaaRqFram
namespace Go.Proofs.Yticdgjohladdlaa.Rq
open Go.RowKit
open Go.Proofs.Yticdgjohladdlaa.Rw (Rd Ow At)
open Go.Proofs.Yticdgjohladdlaa.Fl (R4 z4)
set_option maxRecDepth 100000
attribute [local irreducible] Sd.wpSd wpQuiet

set_option maxHeartbeats 4000000 in
theorem isreply_any (w : World) (y : Y) : Calls Try.prog 22 #[yV y] w fun e w' => e = .returned (.bool (mayB y)) ∧ Below w.heap.size w w' := by
  have B0 := Lib.hid ((Below.refl w.heap.size w).alloc (Nat.le_refl _) (.cells (yA y) 40))
  have H : Hid (mayB y = mayB y) := Lib.hid rfl
  obtain ⟨id, e, ⟨v0, v1, v2, v3⟩⟩ := y
  unfold yV yA
  unfold yA at B0
  dsimp only at B0 H ⊢
  by_cases hi : 0 ≤ id ∧ id ≤ 65535
  · have I := fun w => Lib.hid (isid_is w id true (decide_eq_true hi))
    rcases (by omega : e < 0 ∨ 0 ≤ e ∧ 16 < e ∨ e = 0 ∨ (1 ≤ e ∧ e ≤ 16)) with h | ⟨h, h'⟩ | rfl | ⟨h, h'⟩
    case' inr.inr.inr =>
      have hne : ¬ e = 0 := by omega
      have es := rec_is v0 v1 v2 v3 _ rfl
      generalize hb : decide (bare (v0, v1, v2, v3)) = bb at es
    all_goals
      have HI := Lib.hid hi
      clear hi
      go_enter Try.func22, Try.ntmps22
      go_wp2_with fail
      refine (I _).out.mono ?_
      rintro e w1 ⟨rfl, rfl⟩
      go_wp2
      go_ret
    · refine ⟨ret_bool ?_, B0.out⟩
      rw [show (e == 0) = false from beq_eq_false_iff_ne.2 (by omega), Bool.false_or, ← hb]
      refine decide_eq_decide.2 ?_
      have := HI.out
      unfold may bare
      dsimp only
      omega
    · exact ⟨ret_bool (decide_eq_false (by unfold may; dsimp only; omega)).symm, B0.out⟩
    · exact ⟨ret_bool (decide_eq_false (by unfold may; dsimp only; omega)).symm, B0.out⟩
    · exact ⟨ret_bool (decide_eq_true (by have := HI.out; unfold may; dsimp only; omega)).symm, B0.out⟩
  · have I := fun w => Lib.hid (isid_is w id false (decide_eq_false hi))
    have HI := Lib.hid hi
    clear hi
    go_enter Try.func22, Try.ntmps22
    go_wp2_with fail
    refine (I _).out.mono ?_
    rintro e w1 ⟨rfl, rfl⟩
    go_wp2
    go_ret
    exact ⟨ret_bool (decide_eq_false (by have := HI.out; unfold may; dsimp only; omega)).symm, B0.out⟩

set_option maxHeartbeats 4000000 in
theorem answer_bad (w : World) (y : Y) (hg : ¬ may y) : Calls Try.prog 13 #[yV y] w (AnsPost w y) := by
  have B0 := Lib.hid ((Below.refl w.heap.size w).alloc (Nat.le_refl _) (.cells (yA y) 40))
  have GR := Lib.hid (at_bool (show mayB y = false from decide_eq_false hg) (isreply_any (w.alloc (.cells (yA y) 40)) y))
  have E : Hid (∀ w', Below w.heap.size w w' → AnsPost w y (.returned (.tuple #[.slice none 0 0, .int .i64 1])) w') := fun w' b => ⟨_, by rw [if_neg hg], by rw [if_neg hg]; exact Rw.Ow.nil _ _ _, b⟩
  clear hg
  unfold yV at *
  go_enter Try.func13, Try.ntmps13
  unfold yA at *
  go_wp2_with fail
  refine GR.out.mono ?_
  rintro e w1 ⟨rfl, b1⟩
  have B1 := bTr B0 b1
  clear b1 B0 GR
  go_wp2
  go_ret2
  exact E.out _ B1

set_option maxHeartbeats 8000000 in
theorem answer_good (w : World) (y : Y) (hg : may y) : Calls Try.prog 13 #[yV y] w (AnsPost w y) := by
  have B0 := Lib.hid ((Below.refl w.heap.size w).alloc (Nat.le_refl _) (.cells (yA y) 40))
  have R0 := Lib.hid (heap_alloc_new w (.cells (yA y) 40))
  have GR := Lib.hid (at_bool (show mayB y = true from decide_eq_true hg) (isreply_any (w.alloc (.cells (yA y) 40)) y))
  have E : Hid (∀ v w', Ow KU w' w.heap.size 5 v (yb y) → Below w.heap.size w w' → AnsPost w y (.returned (.tuple #[v, .int .i64 0])) w') := fun v w' o b => ⟨v, by rw [if_pos hg], by rw [if_pos hg]; exact o, b⟩
  have EQ : Hid (yb y = [0, 2 + (([y.e] ++ [y.v.1, y.v.2.1, y.v.2.2.1, y.v.2.2.2]).length : Int), y.id / 256, y.id % 256] ++ ([y.e] ++ [y.v.1, y.v.2.1, y.v.2.2.1, y.v.2.2.2])) := Lib.hid rfl
  obtain ⟨id, e, ⟨v0, v1, v2, v3⟩⟩ := y
  unfold may at hg
  unfold yV at *
  unfold yA at *
  dsimp only at hg B0 R0 GR E EQ ⊢
  obtain ⟨⟨h1, h2⟩, ⟨h3, h4⟩, _⟩ := hg
  have FR := fun w v l hl R => Lib.hid (framed_any w id v l h1 h2 hl R)
  have q3 := u8_in (x := e) (by omega) (by omega)
  clear h1 h2 h3 h4
  go_enter Try.func13, Try.ntmps13
  go_wp2_with fail
  refine GR.out.mono ?_
  rintro e' w1 ⟨rfl, b1⟩
  have B1 := bTr B0 b1
  have R1 := Lib.hid (bBl b1 R0.out)
  clear b1 B0 GR R0
  have c0 := Sd.cell_by (rc1 R1.out 0)
  have c1 := Sd.cell_by (rc1 R1.out 1)
  go_upto_region 3 with fail
  have BW := Lib.hid ((Below.refl w1.heap.size w1).drew)
  refine Sd.start [(false, 0), (false, 1), (false, 2), (false, 3), (false, 4), (false, 6), (false, 7), (true, 5), (true, 8), (true, 9), (false, 10), (false, 11)] (by kernel_rfl) (by kernel_rfl) (by kernel_rfl) ?_
  dsimp only [Sd.picks, List.getElem?_cons_succ, List.getElem?_cons_zero]
  repeat (refine Sd.lit ?_; quiet_step (fail); refine wpQuiet_nil ?_)
  generalize w1.drew = w2 at *
  have R2 := Lib.hid (bBl BW.out R1.out)
  have L3 : Hid (Ow KU (w2.alloc (.cells #[.int .u8 e] 5)) w1.heap.size 5 (.slice (some ⟨w2.heap.size, 0, none⟩) 1 1) [e]) := Lib.hid (Rw.Ow.lit (K := KU) w2 w1.heap.size 5 [e] BW.out.size (by unfold maxLen; simp))
  have R3 := Lib.hid (bBl ((Below.refl w2.heap.size w2).alloc (Nat.le_refl _) (.cells #[.int .u8 e] 5)) R2.out)
  have B3 := Lib.hid (BW.out.alloc BW.out.size (.cells #[.int .u8 e] 5))
  clear R1 R2 BW c0 c1
  refine Sd.call (by rfl) (fun K hK => ?_)
  go_simp
  refine hK _ _ (Sd.Cl.of B3.out) ?_
  clear hK K q3
  generalize w2.alloc (.cells #[.int .u8 e] 5) = w3 at *
  generalize w2.heap.size = g at *
  have V := Lib.hid (rd_part 2 [v0, v1, v2, v3] 4 R3.out (fun i x e => by
    match i, e with
    | 0, e => cases e; rfl
    | 1, e => cases e; rfl
    | 2, e => cases e; rfl
    | 3, e => cases e; rfl
    | i + 4, e => simp at e) (by simp) (by unfold maxLen; simp))
  refine Sd.call (by rfl) (fun K hK => ?_)
  refine wp_all Try.underlying26 infoU rfl (by omega) _ _ rfl w1.heap.size _ _ rfl L3.out _ [v0, v1, v2, v3] rfl V.out (by simp) (by simp) B3.out.size ?_
  intro v6 w6 o6 b6
  have B6 := Lib.hid (B3.out.trans b6)
  have FR6 := FR w6 v6 _ (by simp) o6.rd
  refine hK _ _ (Sd.Cl.of B6.out) ?_
  clear hK K L3 R3 B3 V FR o6 b6
  refine Sd.call (by rfl) (fun K hK => ?_)
  go_simp
  refine FR6.out.mono ?_
  rintro e' w8 ⟨v8, rfl, o8, b8⟩
  have B8 := Lib.hid (B6.out.trans (b8.mono B6.out.size))
  refine hK _ _ (Sd.Cl.of B8.out) ?_
  have F := Lib.hid (E.out v8 w8 (by rw [EQ.out]; exact o8.low (Nat.le_trans B1.out.size B6.out.size)) (bTr B1.out B8.out))
  clear hK K E EQ o8 b8 B8 B6 B1 FR6
  repeat (refine Sd.lit ?_; quiet_step (fail); refine wpQuiet_nil ?_)
  refine Sd.done ?_
  go_wp2
  go_ret2
  exact F.out

theorem answer_any (w : World) (y : Y) : Calls Try.prog 13 #[yV y] w (AnsPost w y) := by
  by_cases hg : may y
  · exact answer_good w y hg
  · exact answer_bad w y hg

end Go.Proofs.Yticdgjohladdlaa.Rq
