/- Layer 21: ReqPuts walked. -/
import Derived.Test.YticdgjohladdlaaRqAwake
import Derived.Test.YticdgjohladdlaaRqTake
namespace Go.Proofs.Yticdgjohladdlaa.Rq
open Go.RowKit
open Go.Proofs.Yticdgjohladdlaa.Rw (Rd Ow At)
open Go.Proofs.Yticdgjohladdlaa.Fl (R4 z4)
set_option maxRecDepth 100000
attribute [local irreducible] Sd.wpSd wpQuiet

set_option maxHeartbeats 4000000 in
theorem puts_any (w : World) (x : Q) (u : Value) (l : List Int) (hb : ∀ y ∈ l, 0 ≤ y ∧ y < 256) (R : Rd KU w u l) : Calls Try.prog 3 #[qV x, u] w fun e w' => e = .returned (.bool true) ∧ Below w.heap.size w w' := by
  have B0 := Lib.hid ((Below.refl w.heap.size w).alloc (Nat.le_refl _) (.cells (qA x) 25))
  have X0 := Lib.hid (heap_alloc_new w (.cells (qA x) 25))
  have R0 := Lib.hid (R.below B0.out)
  have P1 : Hid (∀ W, Calls Try.prog 6 #[qV x] W (PutPost W x)) := fun W => put_any W x
  have P2 : Hid (∀ W, Calls Try.prog 7 #[qV x] W (PutPost W x)) := fun W => rput_any W x
  have T1 : Hid (∀ W, Rd KU W u l → Calls Try.prog 8 #[u] W (TakePost W l)) := fun W h => take_any W u l hb h
  have T2 : Hid (∀ W, Rd KU W u l → Calls Try.prog 9 #[u] W (TakePost W l)) := fun W h => rtake_any W u l hb h
  have G1 := Lib.hid (fun W => good_any W x)
  have G2 := Lib.hid (fun W => rgood_any W x)
  unfold PutPost at P1 P2
  unfold TakePost at T1 T2
  generalize (if good x then qb x else []) = L at *
  generalize (if good x then (0 : Int) else 1) = ge at *
  generalize (if isQ l then (0 : Int) else 2) = gf at *
  generalize (if isQ l then qof l else zQ) = z at *
  generalize goodB x = gb at *
  have es := same_q z
  obtain ⟨id, k, n, f, r, ⟨v0, v1, v2, v3⟩, key⟩ := x
  obtain ⟨zi, zk, zn, zf, zr, ⟨z0, z1, z2, z3⟩, zy⟩ := z
  clear hb R
  unfold qV qA at *
  dsimp only at B0 X0 R0 P1 P2 T1 T2 G1 G2 es ⊢
  go_enter Try.func3, Try.ntmps3
  go_wp2_with fail
  refine (P1.out _).mono ?_
  rintro e w1 ⟨u1, rfl, o1, b1⟩
  have B1 := bTr B0.out b1
  have X1 := Lib.hid (bBl b1 X0.out)
  have R1 := Lib.hid (R0.out.below b1)
  have U1 := Lib.hid o1.rd
  clear b1 o1 B0 X0 R0 P1
  have c0 := rc1 X1.out 0
  have c1 := rc1 X1.out 1
  have c2 := rc1 X1.out 2
  have c3 := rc1 X1.out 3
  have c4 := rc1 X1.out 4
  have c5 := rc1 X1.out 5
  have c6 := rc1 X1.out 6
  have c7 := rc1 X1.out 7
  have c8 := rc1 X1.out 8
  have c9 := rc1 X1.out 9
  go_wp2_with fail
  refine (P2.out _).mono ?_
  rintro e w2 ⟨u2, rfl, o2, b2⟩
  have B2 := bTr B1.out b2
  have X2 := Lib.hid (bBl b2 X1.out)
  have R2 := Lib.hid (R1.out.below b2)
  have U2 := Lib.hid (U1.out.below b2)
  have V2 := Lib.hid o2.rd
  clear b2 o2 B1 X1 R1 U1 P2 c0 c1 c2 c3 c4 c5 c6 c7 c8 c9
  go_wp2_with fail
  refine (T1.out _ R2.out).mono ?_
  rintro e w3 ⟨rfl, b3⟩
  go_upto_region 4 with fail
  have bb := b3.alloc b3.size (.cells #[.int .i64 zi, .int .i64 zk, .int .i64 zn, .int .i64 zf, .int .i64 zr, .int .u8 z0, .int .u8 z1, .int .u8 z2, .int .u8 z3, .int .i64 zy] 25)
  have B3 := bTr B2.out bb
  have X3 := Lib.hid (bBl bb X2.out)
  have R3 := Lib.hid (R2.out.below bb)
  have U3 := Lib.hid (U2.out.below bb)
  have V3 := Lib.hid (V2.out.below bb)
  have Y3 := Lib.hid (heap_alloc_new w3 (.cells #[.int .i64 zi, .int .i64 zk, .int .i64 zn, .int .i64 zf, .int .i64 zr, .int .u8 z0, .int .u8 z1, .int .u8 z2, .int .u8 z3, .int .i64 zy] 25))
  clear bb b3 B2 X2 R2 U2 V2 T1
  generalize w3.alloc (.cells #[.int .i64 zi, .int .i64 zk, .int .i64 zn, .int .i64 zf, .int .i64 zr, .int .u8 z0, .int .u8 z1, .int .u8 z2, .int .u8 z3, .int .i64 zy] 25) = W3 at *
  generalize w3.heap.size = g3 at *
  go_wp2_with fail
  refine (T2.out _ R3.out).mono ?_
  rintro e w4 ⟨rfl, b4⟩
  go_upto_region 5 with fail
  have bb := b4.alloc b4.size (.cells #[.int .i64 zi, .int .i64 zk, .int .i64 zn, .int .i64 zf, .int .i64 zr, .int .u8 z0, .int .u8 z1, .int .u8 z2, .int .u8 z3, .int .i64 zy] 25)
  have B4 := bTr B3.out bb
  have X4 := Lib.hid (bBl bb X3.out)
  have U4 := Lib.hid (U3.out.below bb)
  have V4 := Lib.hid (V3.out.below bb)
  have Y4 := Lib.hid (bBl bb Y3.out)
  have Z4 := Lib.hid (heap_alloc_new w4 (.cells #[.int .i64 zi, .int .i64 zk, .int .i64 zn, .int .i64 zf, .int .i64 zr, .int .u8 z0, .int .u8 z1, .int .u8 z2, .int .u8 z3, .int .i64 zy] 25))
  clear bb b4 B3 X3 R3 U3 V3 Y3 T2
  generalize w4.alloc (.cells #[.int .i64 zi, .int .i64 zk, .int .i64 zn, .int .i64 zf, .int .i64 zr, .int .u8 z0, .int .u8 z1, .int .u8 z2, .int .u8 z3, .int .i64 zy] 25) = W at *
  generalize w4.heap.size = g4 at *
  have p0 := Sd.cell_by (rc1 X4.out 0)
  have p1 := Sd.cell_by (rc1 X4.out 1)
  have p2 := Sd.cell_by (rc1 X4.out 2)
  have p3 := Sd.cell_by (rc1 X4.out 3)
  have p4 := Sd.cell_by (rc1 X4.out 4)
  have p5 := Sd.cell_by (rc1 X4.out 5)
  have p6 := Sd.cell_by (rc1 X4.out 6)
  have p7 := Sd.cell_by (rc1 X4.out 7)
  have p8 := Sd.cell_by (rc1 X4.out 8)
  have p9 := Sd.cell_by (rc1 X4.out 9)
  have y0 := Sd.cell_by (rc1 Y4.out 0)
  have y1 := Sd.cell_by (rc1 Y4.out 1)
  have y2 := Sd.cell_by (rc1 Y4.out 2)
  have y3 := Sd.cell_by (rc1 Y4.out 3)
  have y4 := Sd.cell_by (rc1 Y4.out 4)
  have y5 := Sd.cell_by (rc1 Y4.out 5)
  have y6 := Sd.cell_by (rc1 Y4.out 6)
  have y7 := Sd.cell_by (rc1 Y4.out 7)
  have y8 := Sd.cell_by (rc1 Y4.out 8)
  have y9 := Sd.cell_by (rc1 Y4.out 9)
  have q0 := Sd.cell_by (rc1 Z4.out 0)
  have q1 := Sd.cell_by (rc1 Z4.out 1)
  have q2 := Sd.cell_by (rc1 Z4.out 2)
  have q3 := Sd.cell_by (rc1 Z4.out 3)
  have q4 := Sd.cell_by (rc1 Z4.out 4)
  have q5 := Sd.cell_by (rc1 Z4.out 5)
  have q6 := Sd.cell_by (rc1 Z4.out 6)
  have q7 := Sd.cell_by (rc1 Z4.out 7)
  have q8 := Sd.cell_by (rc1 Z4.out 8)
  have q9 := Sd.cell_by (rc1 Z4.out 9)
  have s1 := fun p : Sd.By W => conv_any (U4.out.below p.below)
  have s2 := fun p : Sd.By W => conv_any (V4.out.below p.below)
  generalize strOfNums L = sL at *
  refine Sd.start [(true, 0), (false, 1), (false, 2), (false, 4), (true, 3), (true, 5), (false, 6), (false, 7), (false, 8), (false, 9), (false, 10), (false, 11), (false, 12), (false, 13), (false, 14), (false, 15), (false, 16), (false, 17), (false, 18), (false, 19), (false, 20), (false, 21), (false, 22), (false, 23), (false, 24), (false, 25), (false, 26), (false, 27), (false, 28), (false, 29), (false, 30)] (by kernel_rfl) (by kernel_rfl) (by kernel_rfl) ?_
  dsimp only [Sd.picks, List.getElem?_cons_succ, List.getElem?_cons_zero]
  refine Sd.call (by rfl) (fun K hK => ?_)
  go_simp
  refine (awake_any _).mono ?_
  rintro e w5 ⟨rfl, b5⟩
  have C5 := Lib.hid (Below.trans ((Below.refl W.heap.size W).drew) b5)
  refine hK _ _ (Sd.Cl.of C5.out) ?_
  clear hK K b5
  repeat (refine Sd.lit ?_; quiet_step (fail); refine wpQuiet_nil ?_)
  refine Sd.call (by rfl) (fun K hK => ?_)
  go_simp
  refine (G1.out _).mono ?_
  rintro e w6 ⟨rfl, b6⟩
  have C6 := Lib.hid (C5.out.trans (b6.mono C5.out.size))
  refine hK _ _ (Sd.Cl.of C6.out) ?_
  clear hK K b6
  refine Sd.call (by rfl) (fun K hK => ?_)
  go_simp
  refine (G2.out _).mono ?_
  rintro e w7 ⟨rfl, b7⟩
  have C7 := Lib.hid (C6.out.trans (b7.mono C6.out.size))
  refine hK _ _ (Sd.Cl.of C7.out) ?_
  clear hK K b7
  repeat (refine Sd.lit ?_; quiet_step (fail); refine wpQuiet_nil ?_)
  refine Sd.done ?_
  go_wp2
  go_ret
  exact ⟨ret_bool (by cases gb <;> simp), B4.out.trans (C7.out.mono B4.out.size)⟩

end Go.Proofs.Yticdgjohladdlaa.Rq
