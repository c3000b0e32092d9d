/- CheckTables, walked. -/
import Derived.Test.YtnigbihofebfhaaCkAwake
import Derived.Test.YtnigbihofebfhaaCkRtab
namespace Go.Proofs.Ytnigbihofebfhaa.Ck
open Go.RowKit
open Go.Proofs.Ytnigbihofebfhaa.Ro (E5 z5 eat ent K5 at5 eat_mem eq_ent)
open Go.Proofs.Ytnigbihofebfhaa.Rw (Rd Ow At)
open Go.Proofs.Ytnigbihofebfhaa.Fl (ret_bool at_bool row_cell row_frozen)

set_option maxHeartbeats 2000000 in
theorem tables_law (w : World) (v : Value) (L : LL) (s : Int) (R : RdL w v L) : Calls Try.prog 3 #[v, .int .i64 s] w fun e w' => e = .returned (.bool true) ∧ Below w.heap.size w w' := by
  have T1 := Lib.hid (fun (W : World) (u : Value) (r : RdL W u (fewL L)) => tables_any W u (fewL L) r)
  have T2 := Lib.hid (fun (W : World) (u : Value) (r : RdL W u (fewL L)) => rtables_any W u (fewL L) r)
  have S1 := Lib.hid (fun (W : World) (u : Value) (r : RdL W u (fewL L)) => sender_any W u (fewL L) s r)
  have S2 := Lib.hid (fun (W : World) (u : Value) (r : RdL W u (fewL L)) => rsender_any W u (fewL L) s r)
  have FW := Lib.hid (fun (W : World) (u : Value) (r : RdL W u L) => few_any W u L r)
  have BL := Lib.hid (fun (W : World) o => (Below.refl W.heap.size W).alloc (Nat.le_refl _) o)
  have R0 := Lib.hid R
  obtain ⟨a, cap, rfl, _⟩ := R.slice
  clear R
  unfold TabPost at T1 T2
  unfold WhoPost at S1 S2
  unfold FewPost at FW
  generalize tN (fewL L) = tn at *
  generalize tE (fewL L) = te at *
  generalize sN s (fewL L) = sn at *
  generalize sE s (fewL L) = x at *
  generalize fewL L = M at *
  generalize L.length = n at *
  have E1 : ∀ w, (Op.equalIn 10000 30 (.agg #[.int .i64 x.1, .int .i64 x.2.1, .int .i64 x.2.2.1, .int .i64 x.2.2.2.1, .int .i64 x.2.2.2.2]) (.agg #[.int .i64 x.1, .int .i64 x.2.1, .int .i64 x.2.2.1, .int .i64 x.2.2.2.1, .int .i64 x.2.2.2.2])).run Try.prog w = .ok true w := fun w => by rw [eq_ent x x w, decide_eq_true rfl]
  unfold ent at S1 S2
  go_enter Try.func3, Try.ntmps3
  go_wp2_with fail
  refine (FW.out _ _ R0.out).mono ?_
  rintro e w1 ⟨u1, rfl, r1, b1⟩
  obtain ⟨a1, k1, rfl, _⟩ := r1.slice
  have Q1 := Lib.hid r1
  have B1 := Lib.hid b1
  clear r1 b1
  go_wp2_with fail
  refine (T1.out _ _ Q1.out).mono ?_
  rintro e w2 ⟨rfl, b2⟩
  have B2 := Lib.hid (B1.out.trans (b2.mono B1.out.size))
  clear b2 Q1 B1 T1
  go_wp2_with fail
  refine (FW.out _ _ (R0.out.below B2.out)).mono ?_
  rintro e w3 ⟨u3, rfl, r3, b3⟩
  obtain ⟨a3, k3, rfl, _⟩ := r3.slice
  have Q3 := Lib.hid r3
  have B3 := Lib.hid (B2.out.trans (b3.mono B2.out.size))
  clear r3 b3 B2
  go_wp2_with fail
  refine (T2.out _ _ Q3.out).mono ?_
  rintro e w4 ⟨rfl, b4⟩
  have B4 := Lib.hid (B3.out.trans (b4.mono B3.out.size))
  clear b4 Q3 B3 T2
  go_wp2_with fail
  refine (FW.out _ _ (R0.out.below B4.out)).mono ?_
  rintro e w5 ⟨u5, rfl, r5, b5⟩
  obtain ⟨a5, k5, rfl, _⟩ := r5.slice
  have Q5 := Lib.hid r5
  have B5 := Lib.hid (B4.out.trans (b5.mono B4.out.size))
  clear r5 b5 B4
  go_wp2_with fail
  refine (S1.out _ _ Q5.out).mono ?_
  rintro e w6 ⟨rfl, b6⟩
  have B6 := Lib.hid (B5.out.trans (b6.mono B5.out.size))
  clear b6 Q5 B5 S1
  go_upto_region 4 with fail
  have B7 := Lib.hid (B6.out.trans ((BL.out w6 (.cells #[.int .i64 x.1, .int .i64 x.2.1, .int .i64 x.2.2.1, .int .i64 x.2.2.2.1, .int .i64 x.2.2.2.2] 30)).mono B6.out.size))
  have X7 : Hid (RowE (w6.alloc (.cells #[.int .i64 x.1, .int .i64 x.2.1, .int .i64 x.2.2.1, .int .i64 x.2.2.2.1, .int .i64 x.2.2.2.2] 30)) w6.heap.size x) := heap_alloc_new w6 _
  clear B6
  generalize w6.alloc (.cells #[.int .i64 x.1, .int .i64 x.2.1, .int .i64 x.2.2.1, .int .i64 x.2.2.2.1, .int .i64 x.2.2.2.2] 30) = W7 at *
  generalize w6.heap.size = gx at *
  go_wp2_with fail
  refine (FW.out _ _ (R0.out.below B7.out)).mono ?_
  rintro e w8 ⟨u8, rfl, r8, b8⟩
  obtain ⟨a8, k8, rfl, _⟩ := r8.slice
  have Q8 := Lib.hid r8
  have B8 := Lib.hid (B7.out.trans (b8.mono B7.out.size))
  have X8 := Lib.hid (X7.out.below b8 X7.out.lt)
  clear r8 b8 B7 X7
  go_wp2_with fail
  refine (S2.out _ _ Q8.out).mono ?_
  rintro e w9 ⟨rfl, b9⟩
  have B9 := Lib.hid (B8.out.trans (b9.mono B8.out.size))
  have X9 := Lib.hid (X8.out.below b9 X8.out.lt)
  clear b9 Q8 B8 X8 S2
  go_upto_region 5 with fail
  have bl := BL.out w9 (.cells #[.int .i64 x.1, .int .i64 x.2.1, .int .i64 x.2.2.1, .int .i64 x.2.2.2.1, .int .i64 x.2.2.2.2] 30)
  have BA := Lib.hid (B9.out.trans (bl.mono B9.out.size))
  have XA := Lib.hid (X9.out.below bl X9.out.lt)
  have YA : Hid (RowE (w9.alloc (.cells #[.int .i64 x.1, .int .i64 x.2.1, .int .i64 x.2.2.1, .int .i64 x.2.2.2.1, .int .i64 x.2.2.2.2] 30)) w9.heap.size x) := heap_alloc_new w9 _
  clear B9 X9 bl
  generalize w9.alloc (.cells #[.int .i64 x.1, .int .i64 x.2.1, .int .i64 x.2.2.1, .int .i64 x.2.2.2.1, .int .i64 x.2.2.2.2] 30) = WA at *
  generalize w9.heap.size = gy at *
  go_wp2_with fail
  refine (awake_any WA).mono ?_
  rintro e wB ⟨rfl, bB⟩
  have BB := Lib.hid (BA.out.trans (bB.mono BA.out.size))
  have XB := XA.out.below bB XA.out.lt
  have YB := YA.out.below bB YA.out.lt
  clear BA XA YA bB
  have c0 : wB.cell? ⟨gx, 0, none⟩ = some (.int .i64 x.1) := row_cell XB 0
  have c1 : wB.cell? ⟨gx, 1, none⟩ = some (.int .i64 x.2.1) := row_cell XB 1
  have c2 : wB.cell? ⟨gx, 2, none⟩ = some (.int .i64 x.2.2.1) := row_cell XB 2
  have c3 : wB.cell? ⟨gx, 3, none⟩ = some (.int .i64 x.2.2.2.1) := row_cell XB 3
  have c4 : wB.cell? ⟨gx, 4, none⟩ = some (.int .i64 x.2.2.2.2) := row_cell XB 4
  have d0 : wB.cell? ⟨gy, 0, none⟩ = some (.int .i64 x.1) := row_cell YB 0
  have d1 : wB.cell? ⟨gy, 1, none⟩ = some (.int .i64 x.2.1) := row_cell YB 1
  have d2 : wB.cell? ⟨gy, 2, none⟩ = some (.int .i64 x.2.2.1) := row_cell YB 2
  have d3 : wB.cell? ⟨gy, 3, none⟩ = some (.int .i64 x.2.2.2.1) := row_cell YB 3
  have d4 : wB.cell? ⟨gy, 4, none⟩ = some (.int .i64 x.2.2.2.2) := row_cell YB 4
  clear XB YB
  go_wp2
  go_ret
  exact ⟨rfl, BB.out⟩

end Go.Proofs.Ytnigbihofebfhaa.Ck
