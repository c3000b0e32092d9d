/- RodlTables, walked. -/
import Derived.Test.YtchbccaokoiodaaRoAwake
import Derived.Test.YtchbccaokoiodaaRoRtab
import Derived.Test.YtchbccaokoiodaaRoRfile
import Derived.Deep.Cut
namespace Go.Proofs.Ytchbccaokoiodaa.Ro
open Go.RowKit
open Go.Proofs.Ytchbccaokoiodaa.Rw (Rd Ow At)
open Go.Proofs.Ytchbccaokoiodaa.Fl (R4 z4 rec4 K4 okR okL okL_take hdr rat file ret_bool at_bool row_cell row_frozen FewPost sameF)

set_option maxHeartbeats 4000000 in
theorem tables_law (w : World) (p : Int) (v : Value) (l : List R4) (u : Value) (m : List E5) (R : Rd K4 w v l) (ok : okL l) (Q : Rd K5 w u m) : Calls Try.prog 4 #[file p v, u] w fun e w' => e = .returned (.bool true) ∧ Below w.heap.size w w' := by
  have FE := Lib.hid (fun w v R => few_any w p v l R)
  have SO := Lib.hid (fun w v R => some_any w v m R)
  have T1 := Lib.hid (fun w v R => table_any w p v (l.take 260) R (okL_take ok 260))
  have T2 := Lib.hid (fun w v R => rtable_any w p v (l.take 260) R (okL_take ok 260))
  have F1 := Lib.hid (fun w v R => file_any w v (m.take 70) R)
  have F2 := Lib.hid (fun w v R => rfile_any w v (m.take 70) R)
  unfold FewPost at FE
  unfold SomePost at SO
  unfold TabPost at T1 T2
  unfold FilePost at F1 F2
  generalize tabL p (l.take 260) = tl at *
  generalize tabN p (l.take 260) = tn at *
  generalize fL (m.take 70) = fl at *
  generalize fP (m.take 70) = fp at *
  generalize fN (m.take 70) = fn at *
  generalize l.take 260 = l2 at *
  generalize m.take 70 = m2 at *
  have SA := Lib.hid (fun w v u R R' => at_bool (show sameB tl tl = true from decide_eq_true rfl) (rsame_any w v u tl tl R R'))
  have SF := Lib.hid (fun w v u R R' => at_bool (show sameF fp fl fp fl = true from decide_eq_true ⟨rfl, rfl⟩) (Fl.rsame_any w fp fp v u fl fl R R'))
  clear ok
  have BL : Hid (∀ (W : World) o, Below W.heap.size W (W.alloc o)) := Lib.hid (fun W o => (Below.refl _ _).alloc (Nat.le_refl _) o)
  obtain ⟨a, n, cap, rfl⟩ : ∃ a n c, v = .slice a n c := by obtain ⟨a, c, e, _⟩ := R; exact ⟨a, _, c, e⟩
  obtain ⟨a', n', cap', rfl⟩ : ∃ a n c, u = .slice a n c := by obtain ⟨a, c, e, _⟩ := Q; exact ⟨a, _, c, e⟩
  unfold file at *
  go_enter Try.func4, Try.ntmps4
  go_upto_region 1 with fail
  have X0 := heap_alloc_new w (.cells #[.int .i64 p, .slice a n cap] 40)
  have B0 := Lib.hid (BL.out w (.cells #[.int .i64 p, .slice a n cap] 40))
  have R0 := Lib.hid (R.below B0.out)
  have Q0 := Lib.hid (Q.below B0.out)
  generalize w.alloc (.cells #[.int .i64 p, .slice a n cap] 40) = W0 at *
  clear R Q
  have c0 : W0.cell? ⟨w.heap.size, 0, none⟩ = some (.int .i64 p) := row_cell X0 0
  have c1 : W0.cell? ⟨w.heap.size, 1, none⟩ = some (.slice a n cap) := row_cell X0 1
  go_wp2_with fail
  refine (FE.out _ _ R0.out).mono ?_
  rintro e w1 ⟨u1, rfl, r1, b1⟩
  clear c0 c1
  go_wp2_with fail
  refine (T1.out _ _ r1).mono ?_
  rintro e w2 ⟨u2, rfl, r2, b2⟩
  obtain ⟨a2, n2, k2, rfl⟩ : ∃ a n c, u2 = .slice a n c := by obtain ⟨a, c, e, _⟩ := r2; exact ⟨a, _, c, e⟩
  have b2' := b1.trans (b2.mono b1.size)
  have B2 := Lib.hid (B0.out.trans (b2'.mono B0.out.size))
  have R2 := Lib.hid (R0.out.below b2')
  have Q2 := Lib.hid (Q0.out.below b2')
  have X2 := (b2'.block _ (lt_of_block X0)).trans X0
  have A2 := Lib.hid r2
  clear b1 b2 b2' r1 r2 X0 R0 Q0 B0 T1
  go_upto_region 2 with fail
  have c0 : w2.cell? ⟨w.heap.size, 0, none⟩ = some (.int .i64 p) := row_cell X2 0
  have c1 : w2.cell? ⟨w.heap.size, 1, none⟩ = some (.slice a n cap) := row_cell X2 1
  go_wp2_with fail
  refine (FE.out _ _ R2.out).mono ?_
  rintro e w3 ⟨u3, rfl, r3, b3⟩
  clear c0 c1
  go_wp2_with fail
  refine (T2.out _ _ r3).mono ?_
  rintro e w4 ⟨u4, rfl, r4, b4⟩
  obtain ⟨a4, n4, k4, rfl⟩ : ∃ a n c, u4 = .slice a n c := by obtain ⟨a, c, e, _⟩ := r4; exact ⟨a, _, c, e⟩
  have b4' := b3.trans (b4.mono b3.size)
  have B4 := Lib.hid (B2.out.trans (b4'.mono B2.out.size))
  have Q4 := Lib.hid (Q2.out.below b4')
  have A4 := Lib.hid (A2.out.below b4')
  have D4 := Lib.hid r4
  clear b3 b4 b4' r3 r4 X2 R2 Q2 B2 A2 T2 FE
  go_wp2_with fail
  refine (SO.out _ _ Q4.out).mono ?_
  rintro e w5 ⟨u5, rfl, r5, b5⟩
  obtain ⟨a5, n5, k5, rfl⟩ : ∃ a n c, u5 = .slice a n c := by obtain ⟨a, c, e, _⟩ := r5; exact ⟨a, _, c, e⟩
  go_wp2_with fail
  refine (F1.out _ _ r5).mono ?_
  rintro e w6 ⟨u6, rfl, r6, b6⟩
  obtain ⟨a6, n6, k6, rfl⟩ : ∃ a n c, u6 = .slice a n c := by obtain ⟨a, c, e, _⟩ := r6; exact ⟨a, _, c, e⟩
  have b6' := (b5.trans (b6.mono b5.size)).alloc (Nat.le_trans b5.size b6.size) (.cells #[.int .i64 fp, .slice a6 n6 k6] 40)
  have B6 := Lib.hid (B4.out.trans (b6'.mono B4.out.size))
  have Q6 := Lib.hid (Q4.out.below b6')
  have A6 := Lib.hid (A4.out.below b6')
  have D6 := Lib.hid (D4.out.below b6')
  have Y6 := heap_alloc_new w6 (.cells #[.int .i64 fp, .slice a6 n6 k6] 40)
  have P6 := Lib.hid (r6.below (BL.out w6 (.cells #[.int .i64 fp, .slice a6 n6 k6] 40)))
  clear b5 b6 b6' r5 r6 Q4 B4 A4 D4 F1
  go_upto_region 4 with fail
  generalize w6.alloc (.cells #[.int .i64 fp, .slice a6 n6 k6] 40) = W6 at *
  generalize w6.heap.size = g6 at *
  go_wp2_with fail
  refine (SO.out _ _ Q6.out).mono ?_
  rintro e w7 ⟨u7, rfl, r7, b7⟩
  obtain ⟨a7, n7, k7, rfl⟩ : ∃ a n c, u7 = .slice a n c := by obtain ⟨a, c, e, _⟩ := r7; exact ⟨a, _, c, e⟩
  go_wp2_with fail
  refine (F2.out _ _ r7).mono ?_
  rintro e w8 ⟨u8, rfl, r8, b8⟩
  obtain ⟨a8, n8, k8, rfl⟩ : ∃ a n c, u8 = .slice a n c := by obtain ⟨a, c, e, _⟩ := r8; exact ⟨a, _, c, e⟩
  have b8' := (b7.trans (b8.mono b7.size)).alloc (Nat.le_trans b7.size b8.size) (.cells #[.int .i64 fp, .slice a8 n8 k8] 40)
  have B8 := Lib.hid (B6.out.trans (b8'.mono B6.out.size))
  have A8 := Lib.hid (A6.out.below b8')
  have D8 := Lib.hid (D6.out.below b8')
  have P8 := Lib.hid (P6.out.below b8')
  have Y8 := (b8'.block _ (lt_of_block Y6)).trans Y6
  have Z8 := heap_alloc_new w8 (.cells #[.int .i64 fp, .slice a8 n8 k8] 40)
  have O8 := Lib.hid (r8.below (BL.out w8 (.cells #[.int .i64 fp, .slice a8 n8 k8] 40)))
  clear b7 b8 b8' r7 r8 Q6 B6 A6 D6 P6 Y6 F2 SO
  go_upto_region 5 with fail
  generalize w8.alloc (.cells #[.int .i64 fp, .slice a8 n8 k8] 40) = W8 at *
  generalize w8.heap.size = g8 at *
  go_wp2_with fail
  refine (awake_any _).mono ?_
  rintro e w9 ⟨rfl, b9⟩
  have B9 := Lib.hid (B8.out.trans (b9.mono B8.out.size))
  have A9 := Lib.hid (A8.out.below b9)
  have D9 := Lib.hid (D8.out.below b9)
  have P9 := Lib.hid (P8.out.below b9)
  have O9 := Lib.hid (O8.out.below b9)
  have Y9 := (b9.block _ (lt_of_block Y8)).trans Y8
  have Z9 := (b9.block _ (lt_of_block Z8)).trans Z8
  clear b9 B8 A8 D8 P8 O8 Y8 Z8
  go_wp2_with fail
  refine (SA.out _ _ _ A9.out D9.out).mono ?_
  rintro e wA ⟨rfl, bA⟩
  have BA := Lib.hid (B9.out.trans (bA.mono B9.out.size))
  have PA := Lib.hid (P9.out.below bA)
  have OA := Lib.hid (O9.out.below bA)
  have YA := (bA.block _ (lt_of_block Y9)).trans Y9
  have ZA := (bA.block _ (lt_of_block Z9)).trans Z9
  have d0 : wA.cell? ⟨g6, 0, none⟩ = some (.int .i64 fp) := row_cell YA 0
  have d1 : wA.cell? ⟨g6, 1, none⟩ = some (.slice a6 n6 k6) := row_cell YA 1
  have e0 : wA.cell? ⟨g8, 0, none⟩ = some (.int .i64 fp) := row_cell ZA 0
  have e1 : wA.cell? ⟨g8, 1, none⟩ = some (.slice a8 n8 k8) := row_cell ZA 1
  clear bA B9 A9 D9 P9 O9 Y9 Z9
  go_wp2_with fail
  refine (SF.out _ _ _ PA.out OA.out).mono ?_
  rintro e wB ⟨rfl, bB⟩
  have BB := Lib.hid (BA.out.trans (bB.mono BA.out.size))
  clear bB BA d0 d1 e0 e1
  go_wp2
  go_ret
  exact ⟨rfl, BB.out⟩

end Go.Proofs.Ytchbccaokoiodaa.Ro
