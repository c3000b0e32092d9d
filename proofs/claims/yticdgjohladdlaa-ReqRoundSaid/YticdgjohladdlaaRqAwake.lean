/- Layer 21: the fixed fact. -/
import Derived.Test.YticdgjohladdlaaRqEq
import Derived.Test.YticdgjohladdlaaRqCtake
import Derived.Test.YticdgjohladdlaaRqCread
namespace Go.Proofs.Yticdgjohladdlaa.Rq
open Go.RowKit
open Go.Proofs.Yticdgjohladdlaa.Rw (Rd Ow At)
open Go.Proofs.Yticdgjohladdlaa.Fl (R4 z4)
set_option maxRecDepth 100000

set_option maxHeartbeats 4000000 in
theorem awake_any (w : World) : Calls Try.prog 10 #[] w fun e w' => e = .returned (.bool true) ∧ Below w.heap.size w w' := by
  have P1 : Hid (∀ W, Calls Try.prog 6 #[.agg #[.int .i64 9, .int .i64 1, .int .i64 3, .int .i64 2, .int .i64 1, .int .u8 0, .int .u8 0, .int .u8 0, .int .u8 0, .int .i64 0]] W fun e w' => ∃ v, e = .returned (.tuple #[v, .int .i64 0]) ∧ Ow KU w' W.heap.size 5 v [0, 7, 0, 9, 1, 3, 2, 1, 0] ∧ Below W.heap.size W w') := fun W => put_any W ⟨9, 1, 3, 2, 1, z4, 0⟩
  have P2 : Hid (∀ W v, Rd KU W v [0, 7, 0, 9, 1, 3, 2, 1, 0] → Calls Try.prog 8 #[v] W fun e w' => e = .returned (.tuple #[.agg #[.int .i64 9, .int .i64 1, .int .i64 3, .int .i64 2, .int .i64 1, .int .u8 0, .int .u8 0, .int .u8 0, .int .u8 0, .int .i64 0], .int .i64 0]) ∧ Below W.heap.size W w') := fun W v h => take_any W v [0, 7, 0, 9, 1, 3, 2, 1, 0] (by decide) h
  have P3 : Hid (∀ W, Calls Try.prog 13 #[.agg #[.int .i64 258, .int .i64 12, .int .u8 0, .int .u8 0, .int .u8 0, .int .u8 0]] W fun e w' => ∃ v, e = .returned (.tuple #[v, .int .i64 0]) ∧ Ow KU w' W.heap.size 5 v [0, 7, 1, 2, 12, 0, 0, 0, 0] ∧ Below W.heap.size W w') := fun W => answer_any W ⟨258, 12, z4⟩
  have P4 : Hid (∀ W v, Rd KU W v [0, 7, 1, 2, 12, 0, 0, 0, 0] → Calls Try.prog 15 #[v] W fun e w' => e = .returned (.tuple #[.agg #[.int .i64 258, .int .i64 12, .int .u8 0, .int .u8 0, .int .u8 0, .int .u8 0], .int .i64 0]) ∧ Below W.heap.size W w') := fun W v h => read_any W v [0, 7, 1, 2, 12, 0, 0, 0, 0] (by decide) h
  have P5 : Hid (∀ W v, Rd KU W v [0, 7, 1, 2, 12, 0, 0, 0, 0] → Calls Try.prog 8 #[v] W fun e w' => e = .returned (.tuple #[.agg #[.int .i64 0, .int .i64 0, .int .i64 0, .int .i64 0, .int .i64 0, .int .u8 0, .int .u8 0, .int .u8 0, .int .u8 0, .int .i64 0], .int .i64 2]) ∧ Below W.heap.size W w') := fun W v h => take_any W v [0, 7, 1, 2, 12, 0, 0, 0, 0] (by decide) h
  have es := same_q ⟨9, 1, 3, 2, 1, z4, 0⟩
  unfold qA z4 at es
  dsimp only at es
  have B0 := Lib.hid ((Below.refl w.heap.size w).alloc (Nat.le_refl _) (.cells #[.int .i64 9, .int .i64 1, .int .i64 3, .int .i64 2, .int .i64 1, .int .u8 0, .int .u8 0, .int .u8 0, .int .u8 0, .int .i64 0] 25))
  have X0 := Lib.hid (heap_alloc_new w (.cells #[.int .i64 9, .int .i64 1, .int .i64 3, .int .i64 2, .int .i64 1, .int .u8 0, .int .u8 0, .int .u8 0, .int .u8 0, .int .i64 0] 25))
  go_enter Try.func10, Try.ntmps10
  go_upto_region 2 with fail
  generalize w.alloc (.cells #[.int .i64 9, .int .i64 1, .int .i64 3, .int .i64 2, .int .i64 1, .int .u8 0, .int .u8 0, .int .u8 0, .int .u8 0, .int .i64 0] 25) = W0 at *
  have c0 := rc1 X0.out 0
  have c1 := rc1 X0.out 1
  have c2 := rc1 X0.out 2
  have c3 := rc1 X0.out 3
  have c4 := rc1 X0.out 4
  have c5 := rc1 X0.out 5
  have c6 := rc1 X0.out 6
  have c7 := rc1 X0.out 7
  have c8 := rc1 X0.out 8
  have c9 := rc1 X0.out 9
  go_wp2_with fail
  refine (P1.out _).mono ?_
  rintro e w1 ⟨u1, rfl, o1, b1⟩
  have B1 := Lib.hid (B0.out.trans (b1.mono B0.out.size))
  have X1 := Lib.hid (bBl b1 X0.out)
  have U1 := Lib.hid o1.rd
  clear b1 o1 B0 X0 P1 c0 c1 c2 c3 c4 c5 c6 c7 c8 c9
  go_wp2_with fail
  refine (P2.out _ _ U1.out).mono ?_
  rintro e w2 ⟨rfl, b2⟩
  go_upto_region 4 with fail
  have bb := b2.alloc b2.size (.cells #[.int .i64 9, .int .i64 1, .int .i64 3, .int .i64 2, .int .i64 1, .int .u8 0, .int .u8 0, .int .u8 0, .int .u8 0, .int .i64 0] 25)
  have B2 := Lib.hid (B1.out.trans (bb.mono B1.out.size))
  have X2 := Lib.hid (bBl bb X1.out)
  have U2 := Lib.hid (U1.out.below bb)
  have Y2 := Lib.hid (heap_alloc_new w2 (.cells #[.int .i64 9, .int .i64 1, .int .i64 3, .int .i64 2, .int .i64 1, .int .u8 0, .int .u8 0, .int .u8 0, .int .u8 0, .int .i64 0] 25))
  clear bb b2 B1 X1 U1 P2
  generalize w2.alloc (.cells #[.int .i64 9, .int .i64 1, .int .i64 3, .int .i64 2, .int .i64 1, .int .u8 0, .int .u8 0, .int .u8 0, .int .u8 0, .int .i64 0] 25) = W2 at *
  generalize w2.heap.size = g2 at *
  go_wp2_with fail
  refine (P3.out _).mono ?_
  rintro e w3 ⟨u3, rfl, o3, b3⟩
  have B3 := Lib.hid (B2.out.trans (b3.mono B2.out.size))
  have X3 := Lib.hid (bBl b3 X2.out)
  have Y3 := Lib.hid (bBl b3 Y2.out)
  have U3 := Lib.hid (U2.out.below b3)
  have V3 := Lib.hid o3.rd
  clear b3 o3 B2 X2 Y2 U2 P3
  go_wp2_with fail
  refine (P4.out _ _ V3.out).mono ?_
  rintro e w4 ⟨rfl, b4⟩
  go_upto_region 6 with fail
  have bb := b4.alloc b4.size (.cells #[.int .i64 258, .int .i64 12, .int .u8 0, .int .u8 0, .int .u8 0, .int .u8 0] 40)
  have B4 := Lib.hid (B3.out.trans (bb.mono B3.out.size))
  have X4 := Lib.hid (bBl bb X3.out)
  have Y4 := Lib.hid (bBl bb Y3.out)
  have U4 := Lib.hid (U3.out.below bb)
  have V4 := Lib.hid (V3.out.below bb)
  have Z4 := Lib.hid (heap_alloc_new w4 (.cells #[.int .i64 258, .int .i64 12, .int .u8 0, .int .u8 0, .int .u8 0, .int .u8 0] 40))
  clear bb b4 B3 X3 Y3 U3 V3 P4
  generalize w4.alloc (.cells #[.int .i64 258, .int .i64 12, .int .u8 0, .int .u8 0, .int .u8 0, .int .u8 0] 40) = W4 at *
  generalize w4.heap.size = g4 at *
  go_wp2_with fail
  refine (P5.out _ _ V4.out).mono ?_
  rintro e w5 ⟨rfl, b5⟩
  go_upto_region 7 with fail
  have bb := b5.alloc b5.size (.cells #[.int .i64 0, .int .i64 0, .int .i64 0, .int .i64 0, .int .i64 0, .int .u8 0, .int .u8 0, .int .u8 0, .int .u8 0, .int .i64 0] 25)
  have B5 := Lib.hid (B4.out.trans (bb.mono B4.out.size))
  have X5 := Lib.hid (bBl bb X4.out)
  have Y5 := Lib.hid (bBl bb Y4.out)
  have U5 := Lib.hid (U4.out.below bb)
  have Z5 := Lib.hid (bBl bb Z4.out)
  clear bb b5 B4 X4 Y4 U4 V4 Z4 P5
  generalize w5.alloc (.cells #[.int .i64 0, .int .i64 0, .int .i64 0, .int .i64 0, .int .i64 0, .int .u8 0, .int .u8 0, .int .u8 0, .int .u8 0, .int .i64 0] 25) = W5 at *
  have bb := (Below.refl W5.heap.size W5).alloc (Nat.le_refl _) (.cells #[.int .u8 0, .int .u8 7, .int .u8 0, .int .u8 9, .int .u8 1, .int .u8 3, .int .u8 2, .int .u8 1, .int .u8 0] 5)
  have B6 := Lib.hid (B5.out.trans (bb.mono B5.out.size))
  have X6 := Lib.hid (bBl bb X5.out)
  have Y6 := Lib.hid (bBl bb Y5.out)
  have Z6 := Lib.hid (bBl bb Z5.out)
  have s1 := conv_any U5.out
  have s2 := conv_any (Rw.Ow.lit (K := KU) W5 0 5 [0, 7, 0, 9, 1, 3, 2, 1, 0] (Nat.zero_le _) (by unfold maxLen; simp)).rd
  replace s2 : (convert 26 9 (.slice (some ⟨W5.heap.size, 0, none⟩) 9 9)).run Try.prog (W5.alloc (.cells #[.int .u8 0, .int .u8 7, .int .u8 0, .int .u8 9, .int .u8 1, .int .u8 3, .int .u8 2, .int .u8 1, .int .u8 0] 5)) = .ok (.string (strOfNums [0, 7, 0, 9, 1, 3, 2, 1, 0])) (W5.alloc (.cells #[.int .u8 0, .int .u8 7, .int .u8 0, .int .u8 9, .int .u8 1, .int .u8 3, .int .u8 2, .int .u8 1, .int .u8 0] 5)) := s2
  generalize strOfNums [0, 7, 0, 9, 1, 3, 2, 1, 0] = sL at *
  have p0 := rc1 X6.out 0
  have p1 := rc1 X6.out 1
  have p2 := rc1 X6.out 2
  have p3 := rc1 X6.out 3
  have p4 := rc1 X6.out 4
  have p5 := rc1 X6.out 5
  have p6 := rc1 X6.out 6
  have p7 := rc1 X6.out 7
  have p8 := rc1 X6.out 8
  have p9 := rc1 X6.out 9
  have y0 := rc1 Y6.out 0
  have y1 := rc1 Y6.out 1
  have y2 := rc1 Y6.out 2
  have y3 := rc1 Y6.out 3
  have y4 := rc1 Y6.out 4
  have y5 := rc1 Y6.out 5
  have y6 := rc1 Y6.out 6
  have y7 := rc1 Y6.out 7
  have y8 := rc1 Y6.out 8
  have y9 := rc1 Y6.out 9
  have q0 := rc1 Z6.out 0
  have q1 := rc1 Z6.out 1
  clear bb B5 X5 Y5 Z5 U5
  go_wp2
  go_ret
  exact ⟨rfl, B6.out⟩

end Go.Proofs.Yticdgjohladdlaa.Rq
