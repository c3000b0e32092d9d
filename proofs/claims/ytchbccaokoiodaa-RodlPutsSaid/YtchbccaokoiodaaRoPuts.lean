/- RodlPuts, walked. -/
import Derived.Test.YtchbccaokoiodaaRoAwake
import Derived.Test.YtchbccaokoiodaaRoRput
import Derived.Test.YtchbccaokoiodaaSd
import Derived.Deep.Cut
namespace Go.Proofs.Ytchbccaokoiodaa.Ro
open Go.RowKit
open Go.Proofs.Ytchbccaokoiodaa.Rw (Rd Ow At)
open Go.Proofs.Ytchbccaokoiodaa.Fl (R4 z4 rec4 K4 okR hdr rat file ret_bool at_bool row_cell row_frozen eq_rec)
attribute [local irreducible] Sd.wpSd wpQuiet

set_option maxHeartbeats 4000000 in
theorem puts_law (w : World) (x : E5) (v : R4) (hv : okR v) : Calls Try.prog 3 #[ent x, rec4 v] w fun e w' => e = .returned (.bool true) ∧ Below w.heap.size w w' := by
  have P1 := Lib.hid (fun w => put_any w x)
  have P2 := Lib.hid (fun w => rput_any w x)
  have P3 := Lib.hid (fun w => take_any w v hv)
  have P4 := Lib.hid (fun w => rtake_any w v hv)
  have G1 := Lib.hid (fun w => good_any w x)
  have G2 := Lib.hid (fun w => rgood_any w x)
  generalize putR x = a at *
  generalize putN x = an at *
  generalize takeE v = c at *
  generalize takeN v = cn at *
  generalize okB x = gb at *
  clear hv
  have E1 : ∀ w, (Op.equalIn 10000 25 (.agg #[.int .u8 a.1, .int .u8 a.2.1, .int .u8 a.2.2.1, .int .u8 a.2.2.2]) (.agg #[.int .u8 a.1, .int .u8 a.2.1, .int .u8 a.2.2.1, .int .u8 a.2.2.2])).run Try.prog w = .ok true w := fun w => by rw [eq_rec a a w, decide_eq_true rfl]
  have E2 : ∀ w, (Op.equalIn 10000 23 (.agg #[.int .i64 c.1, .int .i64 c.2.1, .int .i64 c.2.2.1, .int .i64 c.2.2.2.1, .int .i64 c.2.2.2.2]) (.agg #[.int .i64 c.1, .int .i64 c.2.1, .int .i64 c.2.2.1, .int .i64 c.2.2.2.1, .int .i64 c.2.2.2.2])).run Try.prog w = .ok true w := fun w => by rw [eq_ent c c w, decide_eq_true rfl]
  unfold ent rec4 at *
  go_enter Try.func3, Try.ntmps3
  go_upto_region 1 with fail
  have bb := ((Below.refl w.heap.size w).alloc (Nat.le_refl _) (.cells #[.int .i64 x.1, .int .i64 x.2.1, .int .i64 x.2.2.1, .int .i64 x.2.2.2.1, .int .i64 x.2.2.2.2] 23)).alloc (by simp) (.cells #[.int .u8 v.1, .int .u8 v.2.1, .int .u8 v.2.2.1, .int .u8 v.2.2.2] 25)
  have B0 := Lib.hid bb
  have X0 : ((w.alloc (.cells #[.int .i64 x.1, .int .i64 x.2.1, .int .i64 x.2.2.1, .int .i64 x.2.2.2.1, .int .i64 x.2.2.2.2] 23)).alloc (.cells #[.int .u8 v.1, .int .u8 v.2.1, .int .u8 v.2.2.1, .int .u8 v.2.2.2] 25)).heap[w.heap.size]? = some (.cells #[.int .i64 x.1, .int .i64 x.2.1, .int .i64 x.2.2.1, .int .i64 x.2.2.2.1, .int .i64 x.2.2.2.2] 23 (0, 0)) := (Below.heap_alloc _ _ _ (by simp)).trans (heap_alloc_new w _)
  have V0 := heap_alloc_new (w.alloc (.cells #[.int .i64 x.1, .int .i64 x.2.1, .int .i64 x.2.2.1, .int .i64 x.2.2.2.1, .int .i64 x.2.2.2.2] 23)) (.cells #[.int .u8 v.1, .int .u8 v.2.1, .int .u8 v.2.2.1, .int .u8 v.2.2.2] 25)
  rw [show (w.alloc (.cells #[.int .i64 x.1, .int .i64 x.2.1, .int .i64 x.2.2.1, .int .i64 x.2.2.2.1, .int .i64 x.2.2.2.2] 23)).heap.size = w.heap.size + 1 by simp] at V0
  generalize (w.alloc (.cells #[.int .i64 x.1, .int .i64 x.2.1, .int .i64 x.2.2.1, .int .i64 x.2.2.2.1, .int .i64 x.2.2.2.2] 23)).alloc (.cells #[.int .u8 v.1, .int .u8 v.2.1, .int .u8 v.2.2.1, .int .u8 v.2.2.2] 25) = W0 at *
  clear bb
  have c0 : W0.cell? ⟨w.heap.size, 0, none⟩ = some (.int .i64 x.1) := row_cell X0 0
  have c1 : W0.cell? ⟨w.heap.size, 1, none⟩ = some (.int .i64 x.2.1) := row_cell X0 1
  have c2 : W0.cell? ⟨w.heap.size, 2, none⟩ = some (.int .i64 x.2.2.1) := row_cell X0 2
  have c3 : W0.cell? ⟨w.heap.size, 3, none⟩ = some (.int .i64 x.2.2.2.1) := row_cell X0 3
  have c4 : W0.cell? ⟨w.heap.size, 4, none⟩ = some (.int .i64 x.2.2.2.2) := row_cell X0 4
  go_wp2_with fail
  refine (P1.out _).mono ?_
  rintro e w1 ⟨rfl, b1⟩
  clear c0 c1 c2 c3 c4
  go_upto_region 2 with fail
  have b1' := b1.alloc b1.size (.cells #[.int .u8 a.1, .int .u8 a.2.1, .int .u8 a.2.2.1, .int .u8 a.2.2.2] 25)
  have B1 := Lib.hid (B0.out.trans (b1'.mono B0.out.size))
  have X1 := (b1'.block _ (lt_of_block X0)).trans X0
  have V1 := (b1'.block _ (lt_of_block V0)).trans V0
  have Y1 := heap_alloc_new w1 (.cells #[.int .u8 a.1, .int .u8 a.2.1, .int .u8 a.2.2.1, .int .u8 a.2.2.2] 25)
  generalize w1.alloc (.cells #[.int .u8 a.1, .int .u8 a.2.1, .int .u8 a.2.2.1, .int .u8 a.2.2.2] 25) = W1 at *
  generalize w1.heap.size = g1 at *
  have c0 : W1.cell? ⟨w.heap.size, 0, none⟩ = some (.int .i64 x.1) := row_cell X1 0
  have c1 : W1.cell? ⟨w.heap.size, 1, none⟩ = some (.int .i64 x.2.1) := row_cell X1 1
  have c2 : W1.cell? ⟨w.heap.size, 2, none⟩ = some (.int .i64 x.2.2.1) := row_cell X1 2
  have c3 : W1.cell? ⟨w.heap.size, 3, none⟩ = some (.int .i64 x.2.2.2.1) := row_cell X1 3
  have c4 : W1.cell? ⟨w.heap.size, 4, none⟩ = some (.int .i64 x.2.2.2.2) := row_cell X1 4
  clear b1 b1' B0 X0 V0
  go_wp2_with fail
  refine (P2.out _).mono ?_
  rintro e w2 ⟨rfl, b2⟩
  clear c0 c1 c2 c3 c4
  go_upto_region 3 with fail
  have b2' := b2.alloc b2.size (.cells #[.int .u8 a.1, .int .u8 a.2.1, .int .u8 a.2.2.1, .int .u8 a.2.2.2] 25)
  have B2 := Lib.hid (B1.out.trans (b2'.mono B1.out.size))
  have X2 := (b2'.block _ (lt_of_block X1)).trans X1
  have V2 := (b2'.block _ (lt_of_block V1)).trans V1
  have Y2 := (b2'.block _ (lt_of_block Y1)).trans Y1
  have Z2 := heap_alloc_new w2 (.cells #[.int .u8 a.1, .int .u8 a.2.1, .int .u8 a.2.2.1, .int .u8 a.2.2.2] 25)
  generalize w2.alloc (.cells #[.int .u8 a.1, .int .u8 a.2.1, .int .u8 a.2.2.1, .int .u8 a.2.2.2] 25) = W2 at *
  generalize w2.heap.size = g2 at *
  have d0 : W2.cell? ⟨w.heap.size + 1, 0, none⟩ = some (.int .u8 v.1) := row_cell V2 0
  have d1 : W2.cell? ⟨w.heap.size + 1, 1, none⟩ = some (.int .u8 v.2.1) := row_cell V2 1
  have d2 : W2.cell? ⟨w.heap.size + 1, 2, none⟩ = some (.int .u8 v.2.2.1) := row_cell V2 2
  have d3 : W2.cell? ⟨w.heap.size + 1, 3, none⟩ = some (.int .u8 v.2.2.2) := row_cell V2 3
  clear b2 b2' B1 X1 V1 Y1
  go_wp2_with fail
  refine (P3.out _).mono ?_
  rintro e w3 ⟨rfl, b3⟩
  clear d0 d1 d2 d3
  go_upto_region 4 with fail
  have b3' := b3.alloc b3.size (.cells #[.int .i64 c.1, .int .i64 c.2.1, .int .i64 c.2.2.1, .int .i64 c.2.2.2.1, .int .i64 c.2.2.2.2] 23)
  have B3 := Lib.hid (B2.out.trans (b3'.mono B2.out.size))
  have X3 := (b3'.block _ (lt_of_block X2)).trans X2
  have V3 := (b3'.block _ (lt_of_block V2)).trans V2
  have Y3 := (b3'.block _ (lt_of_block Y2)).trans Y2
  have Z3 := (b3'.block _ (lt_of_block Z2)).trans Z2
  have U3 := heap_alloc_new w3 (.cells #[.int .i64 c.1, .int .i64 c.2.1, .int .i64 c.2.2.1, .int .i64 c.2.2.2.1, .int .i64 c.2.2.2.2] 23)
  generalize w3.alloc (.cells #[.int .i64 c.1, .int .i64 c.2.1, .int .i64 c.2.2.1, .int .i64 c.2.2.2.1, .int .i64 c.2.2.2.2] 23) = W3 at *
  generalize w3.heap.size = g3 at *
  have d0 : W3.cell? ⟨w.heap.size + 1, 0, none⟩ = some (.int .u8 v.1) := row_cell V3 0
  have d1 : W3.cell? ⟨w.heap.size + 1, 1, none⟩ = some (.int .u8 v.2.1) := row_cell V3 1
  have d2 : W3.cell? ⟨w.heap.size + 1, 2, none⟩ = some (.int .u8 v.2.2.1) := row_cell V3 2
  have d3 : W3.cell? ⟨w.heap.size + 1, 3, none⟩ = some (.int .u8 v.2.2.2) := row_cell V3 3
  clear b3 b3' B2 X2 V2 Y2 Z2
  go_wp2_with fail
  refine (P4.out _).mono ?_
  rintro e w4 ⟨rfl, b4⟩
  clear d0 d1 d2 d3
  go_upto_region 5 with fail
  have b4' := b4.alloc b4.size (.cells #[.int .i64 c.1, .int .i64 c.2.1, .int .i64 c.2.2.1, .int .i64 c.2.2.2.1, .int .i64 c.2.2.2.2] 23)
  have B4 := Lib.hid (B3.out.trans (b4'.mono B3.out.size))
  have X4 := (b4'.block _ (lt_of_block X3)).trans X3
  have Y4 := (b4'.block _ (lt_of_block Y3)).trans Y3
  have Z4 := (b4'.block _ (lt_of_block Z3)).trans Z3
  have U4 := (b4'.block _ (lt_of_block U3)).trans U3
  have T4 := heap_alloc_new w4 (.cells #[.int .i64 c.1, .int .i64 c.2.1, .int .i64 c.2.2.1, .int .i64 c.2.2.2.1, .int .i64 c.2.2.2.2] 23)
  generalize w4.alloc (.cells #[.int .i64 c.1, .int .i64 c.2.1, .int .i64 c.2.2.1, .int .i64 c.2.2.2.1, .int .i64 c.2.2.2.2] 23) = W4 at *
  generalize w4.heap.size = g4 at *
  have cx0 := Sd.cell_by (show W4.cell? ⟨w.heap.size, 0, none⟩ = some (.int .i64 x.1) from row_cell X4 0)
  have cx1 := Sd.cell_by (show W4.cell? ⟨w.heap.size, 1, none⟩ = some (.int .i64 x.2.1) from row_cell X4 1)
  have cx2 := Sd.cell_by (show W4.cell? ⟨w.heap.size, 2, none⟩ = some (.int .i64 x.2.2.1) from row_cell X4 2)
  have cx3 := Sd.cell_by (show W4.cell? ⟨w.heap.size, 3, none⟩ = some (.int .i64 x.2.2.2.1) from row_cell X4 3)
  have cx4 := Sd.cell_by (show W4.cell? ⟨w.heap.size, 4, none⟩ = some (.int .i64 x.2.2.2.2) from row_cell X4 4)
  have cy0 := Sd.cell_by (show W4.cell? ⟨g1, 0, none⟩ = some (.int .u8 a.1) from row_cell Y4 0)
  have cy1 := Sd.cell_by (show W4.cell? ⟨g1, 1, none⟩ = some (.int .u8 a.2.1) from row_cell Y4 1)
  have cy2 := Sd.cell_by (show W4.cell? ⟨g1, 2, none⟩ = some (.int .u8 a.2.2.1) from row_cell Y4 2)
  have cy3 := Sd.cell_by (show W4.cell? ⟨g1, 3, none⟩ = some (.int .u8 a.2.2.2) from row_cell Y4 3)
  have cz0 := Sd.cell_by (show W4.cell? ⟨g2, 0, none⟩ = some (.int .u8 a.1) from row_cell Z4 0)
  have cz1 := Sd.cell_by (show W4.cell? ⟨g2, 1, none⟩ = some (.int .u8 a.2.1) from row_cell Z4 1)
  have cz2 := Sd.cell_by (show W4.cell? ⟨g2, 2, none⟩ = some (.int .u8 a.2.2.1) from row_cell Z4 2)
  have cz3 := Sd.cell_by (show W4.cell? ⟨g2, 3, none⟩ = some (.int .u8 a.2.2.2) from row_cell Z4 3)
  have cu0 := Sd.cell_by (show W4.cell? ⟨g3, 0, none⟩ = some (.int .i64 c.1) from row_cell U4 0)
  have cu1 := Sd.cell_by (show W4.cell? ⟨g3, 1, none⟩ = some (.int .i64 c.2.1) from row_cell U4 1)
  have cu2 := Sd.cell_by (show W4.cell? ⟨g3, 2, none⟩ = some (.int .i64 c.2.2.1) from row_cell U4 2)
  have cu3 := Sd.cell_by (show W4.cell? ⟨g3, 3, none⟩ = some (.int .i64 c.2.2.2.1) from row_cell U4 3)
  have cu4 := Sd.cell_by (show W4.cell? ⟨g3, 4, none⟩ = some (.int .i64 c.2.2.2.2) from row_cell U4 4)
  have ct0 := Sd.cell_by (show W4.cell? ⟨g4, 0, none⟩ = some (.int .i64 c.1) from row_cell T4 0)
  have ct1 := Sd.cell_by (show W4.cell? ⟨g4, 1, none⟩ = some (.int .i64 c.2.1) from row_cell T4 1)
  have ct2 := Sd.cell_by (show W4.cell? ⟨g4, 2, none⟩ = some (.int .i64 c.2.2.1) from row_cell T4 2)
  have ct3 := Sd.cell_by (show W4.cell? ⟨g4, 3, none⟩ = some (.int .i64 c.2.2.2.1) from row_cell T4 3)
  have ct4 := Sd.cell_by (show W4.cell? ⟨g4, 4, none⟩ = some (.int .i64 c.2.2.2.2) from row_cell T4 4)
  clear b4 b4' B3 X3 V3 Y3 Z3 U3 X4 Y4 Z4 U4 T4 P1 P2 P3 P4
  refine Sd.start [(true, 0), (false, 1), (false, 2), (false, 4), (true, 3), (true, 5), (false, 6), (false, 7), (false, 8), (false, 9), (false, 10), (false, 11), (false, 12), (false, 13), (false, 14), (false, 15), (false, 16), (false, 17), (false, 18), (false, 19), (false, 20), (false, 21), (false, 22), (false, 23), (false, 24), (false, 25), (false, 26), (false, 27), (false, 28)] (by kernel_rfl) (by kernel_rfl) (by kernel_rfl) ?_
  dsimp only [Sd.picks, List.getElem?_cons_succ, List.getElem?_cons_zero]
  refine Sd.call (by rfl) (fun K hK => ?_)
  go_simp
  refine (awake_any _).mono ?_
  rintro e v1 ⟨rfl, b1⟩
  have C1 := Lib.hid (Below.trans ((Below.refl W4.heap.size W4).drew) b1)
  refine hK _ _ (Sd.Cl.of C1.out) ?_
  clear hK K b1
  iterate 3 (refine Sd.lit ?_; quiet_step (fail); refine wpQuiet_nil ?_)
  refine Sd.call (by rfl) (fun K hK => ?_)
  go_simp
  refine (G1.out _).mono ?_
  rintro e v2 ⟨rfl, b2⟩
  have C2 := Lib.hid (C1.out.trans (b2.mono C1.out.size))
  refine hK _ _ (Sd.Cl.of C2.out) ?_
  clear hK K b2 C1
  refine Sd.call (by rfl) (fun K hK => ?_)
  go_simp
  refine (G2.out _).mono ?_
  rintro e v3 ⟨rfl, b3⟩
  have C3 := Lib.hid (C2.out.trans (b3.mono C2.out.size))
  refine hK _ _ (Sd.Cl.of C3.out) ?_
  clear hK K b3 C2
  repeat (refine Sd.lit ?_; quiet_step (fail); refine wpQuiet_nil ?_)
  refine Sd.done ?_
  go_wp2
  go_ret
  exact ⟨rfl, B4.out.trans (C3.out.mono B4.out.size)⟩

end Go.Proofs.Ytchbccaokoiodaa.Ro
