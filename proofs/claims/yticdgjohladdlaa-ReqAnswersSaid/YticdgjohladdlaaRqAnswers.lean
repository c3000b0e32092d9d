/- Layer 21: ReqAnswers walked. -/
import Derived.Test.YticdgjohladdlaaRqAwake
import Derived.Test.YticdgjohladdlaaRqRead
namespace Go.Proofs.Yticdgjohladdlaa.Rq
open Go.RowKit
open Go.Proofs.Yticdgjohladdlaa.Rw (Rd Ow At)
open Go.Proofs.Yticdgjohladdlaa.Fl (R4 z4)
set_option maxRecDepth 100000

set_option maxHeartbeats 4000000 in
theorem answers_any (w : World) (x : Y) (u : Value) (l : List Int) (hb : ∀ y ∈ l, 0 ≤ y ∧ y < 256) (R : Rd KU w u l) : Calls Try.prog 4 #[yV x, u] w fun e w' => e = .returned (.bool true) ∧ Below w.heap.size w w' := by
  have B0 := Lib.hid ((Below.refl w.heap.size w).alloc (Nat.le_refl _) (.cells (yA x) 40))
  have X0 := Lib.hid (heap_alloc_new w (.cells (yA x) 40))
  have R0 := Lib.hid (R.below B0.out)
  have P1 : Hid (∀ W, Calls Try.prog 13 #[yV x] W (AnsPost W x)) := fun W => answer_any W x
  have P2 : Hid (∀ W, Calls Try.prog 14 #[yV x] W (AnsPost W x)) := fun W => ranswer_any W x
  have T1 : Hid (∀ W, Rd KU W u l → Calls Try.prog 15 #[u] W (ReadPost W l)) := fun W h => read_any W u l hb h
  have T2 : Hid (∀ W, Rd KU W u l → Calls Try.prog 16 #[u] W (ReadPost W l)) := fun W h => rread_any W u l hb h
  unfold AnsPost at P1 P2
  unfold ReadPost at T1 T2
  generalize (if may x then yb x else []) = L at *
  generalize (if may x then (0 : Int) else 1) = ge at *
  generalize (if isY l then (0 : Int) else 2) = gf at *
  generalize (if isY l then yof l else zY) = z at *
  have es := same_y z
  obtain ⟨id, k, ⟨v0, v1, v2, v3⟩⟩ := x
  obtain ⟨zi, ze, ⟨z0, z1, z2, z3⟩⟩ := z
  clear hb R
  unfold yV yA at *
  dsimp only at B0 X0 R0 P1 P2 T1 T2 es ⊢
  go_enter Try.func4, Try.ntmps4
  go_wp2_with fail
  refine (P1.out _).mono ?_
  rintro e w1 ⟨u1, rfl, o1, b1⟩
  have B1 := bTr B0.out b1
  have X1 := Lib.hid (bBl b1 X0.out)
  have R1 := Lib.hid (R0.out.below b1)
  have U1 := Lib.hid o1.rd
  clear b1 o1 B0 X0 R0 P1
  have c0 := rc1 X1.out 0
  have c1 := rc1 X1.out 1
  have c2 := rc1 X1.out 2
  have c3 := rc1 X1.out 3
  have c4 := rc1 X1.out 4
  have c5 := rc1 X1.out 5
  go_wp2_with fail
  refine (P2.out _).mono ?_
  rintro e w2 ⟨u2, rfl, o2, b2⟩
  have B2 := bTr B1.out b2
  have R2 := Lib.hid (R1.out.below b2)
  have U2 := Lib.hid (U1.out.below b2)
  have V2 := Lib.hid o2.rd
  clear b2 o2 B1 X1 R1 U1 P2 c0 c1 c2 c3 c4 c5
  go_wp2_with fail
  refine (T1.out _ R2.out).mono ?_
  rintro e w3 ⟨rfl, b3⟩
  go_upto_region 4 with fail
  have bb := b3.alloc b3.size (.cells #[.int .i64 zi, .int .i64 ze, .int .u8 z0, .int .u8 z1, .int .u8 z2, .int .u8 z3] 40)
  have B3 := bTr B2.out bb
  have R3 := Lib.hid (R2.out.below bb)
  have U3 := Lib.hid (U2.out.below bb)
  have V3 := Lib.hid (V2.out.below bb)
  have Y3 := Lib.hid (heap_alloc_new w3 (.cells #[.int .i64 zi, .int .i64 ze, .int .u8 z0, .int .u8 z1, .int .u8 z2, .int .u8 z3] 40))
  clear bb b3 B2 R2 U2 V2 T1
  generalize w3.alloc (.cells #[.int .i64 zi, .int .i64 ze, .int .u8 z0, .int .u8 z1, .int .u8 z2, .int .u8 z3] 40) = W3 at *
  generalize w3.heap.size = g3 at *
  go_wp2_with fail
  refine (T2.out _ R3.out).mono ?_
  rintro e w4 ⟨rfl, b4⟩
  go_upto_region 5 with fail
  have bb := b4.alloc b4.size (.cells #[.int .i64 zi, .int .i64 ze, .int .u8 z0, .int .u8 z1, .int .u8 z2, .int .u8 z3] 40)
  have B4 := bTr B3.out bb
  have U4 := Lib.hid (U3.out.below bb)
  have V4 := Lib.hid (V3.out.below bb)
  have Y4 := Lib.hid (bBl bb Y3.out)
  have Z4 := Lib.hid (heap_alloc_new w4 (.cells #[.int .i64 zi, .int .i64 ze, .int .u8 z0, .int .u8 z1, .int .u8 z2, .int .u8 z3] 40))
  clear bb b4 B3 R3 U3 V3 Y3 T2
  generalize w4.alloc (.cells #[.int .i64 zi, .int .i64 ze, .int .u8 z0, .int .u8 z1, .int .u8 z2, .int .u8 z3] 40) = W at *
  generalize w4.heap.size = g4 at *
  go_wp2_with fail
  refine (awake_any _).mono ?_
  rintro e w5 ⟨rfl, b5⟩
  have B5 := bTr B4.out b5
  have Y5 := Lib.hid (bBl b5 Y4.out)
  have Z5 := Lib.hid (bBl b5 Z4.out)
  have s1 := conv_any (U4.out.below b5)
  have s2 := conv_any (V4.out.below b5)
  generalize strOfNums L = sL at *
  have y0 := rc1 Y5.out 0
  have y1 := rc1 Y5.out 1
  have y2 := rc1 Y5.out 2
  have y3 := rc1 Y5.out 3
  have y4 := rc1 Y5.out 4
  have y5 := rc1 Y5.out 5
  have q0 := rc1 Z5.out 0
  have q1 := rc1 Z5.out 1
  have q2 := rc1 Z5.out 2
  have q3 := rc1 Z5.out 3
  have q4 := rc1 Z5.out 4
  have q5 := rc1 Z5.out 5
  clear b5 B4 Y4 Z4 U4 V4
  go_wp2
  go_ret
  exact ⟨ret_bool (by simp), B5.out⟩

end Go.Proofs.Yticdgjohladdlaa.Rq
