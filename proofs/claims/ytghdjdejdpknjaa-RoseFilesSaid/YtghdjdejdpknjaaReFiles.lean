/- RoseFiles, walked. -/
import Derived.Test.YtghdjdejdpknjaaReAwake
import Derived.Test.YtghdjdejdpknjaaReRseq
import Derived.Test.YtghdjdejdpknjaaFlFew
import Derived.Deep.Cut
namespace Go.Proofs.Ytghdjdejdpknjaa.Re
open Go.RowKit
open Go.Proofs.Ytghdjdejdpknjaa.Rw (Rd Ow At)
open Go.Proofs.Ytghdjdejdpknjaa.Fl (R4 z4 rec4 K4 okR okL okL_take hdr rat file ret_bool at_bool row_cell row_frozen sameF)
set_option maxRecDepth 100000

/-- What stays as it is through the whole law. -/
structure Hold (w : World) (v : Value) (l : List Int) (p : Int) (u : Value) (m : List R4) (g : Nat) (W : World) : Prop where
  bel : Below w.heap.size w W
  row : W.heap[g]? = some (.cells #[.int .i64 p, u] 25 (0, 0))
  q : Rd KI W v l
  r : Rd K4 W u m
theorem Hold.mono {w : World} {v : Value} {l : List Int} {p : Int} {u : Value} {m : List R4} {g : Nat} {W W' : World} (h : Hold w v l p u m g W) (b : Below W.heap.size W W') : Hold w v l p u m g W' :=
  ⟨h.bel.trans (b.mono h.bel.size), (b.block _ (lt_of_block h.row)).trans h.row, h.q.below b, h.r.below b⟩

set_option maxHeartbeats 8000000 in
theorem files_law (w : World) (v : Value) (l : List Int) (p : Int) (u : Value) (m : List R4) (t : Int) (Q : Rd KI w v l) (R : Rd K4 w u m) (ok : okL m) : Calls Try.prog 3 #[v, file p u, .int .i64 t] w fun e w' => e = .returned (.bool true) ∧ Below w.heap.size w w' := by
  have SO := Lib.hid (fun w v R => some_any w v l R)
  have F1 := Lib.hid (fun w v R => file_any w v (l.take 70) R)
  have F2 := Lib.hid (fun w v R => rfile_any w v (l.take 70) R)
  have S1 := Lib.hid (fun w v R => sequence_any w p v (m.take 260) R (okL_take ok 260))
  have S2 := Lib.hid (fun w v R => rsequence_any w p v (m.take 260) R (okL_take ok 260))
  have N1 := Lib.hid (fun w v R => next_any w v (l.take 70) t R)
  have N2 := Lib.hid (fun w v R => rnext_any w v (l.take 70) t R)
  unfold SomePost at SO
  unfold FilePost at F1 F2
  unfold SeqPost at S1 S2
  unfold NextPost at N1 N2
  generalize fL (l.take 70) = fl at *
  generalize fP (l.take 70) = fp at *
  generalize fN (l.take 70) = fn at *
  generalize sL p (m.take 260) = sl at *
  generalize sN p (m.take 260) = sn at *
  generalize nR (l.take 70) t = nr at *
  generalize nT (l.take 70) t = nt at *
  generalize nE (l.take 70) t = ne at *
  generalize l.take 70 = l2 at *
  have SA := Lib.hid (fun w v u R R' => at_bool (show sameB sl sl = true from decide_eq_true rfl) (same_any w v u sl sl R R'))
  have SF := Lib.hid (fun w v u R R' => at_bool (show sameF fp fl fp fl = true from decide_eq_true ⟨rfl, rfl⟩) (Fl.rsame_any w fp fp v u fl fl R R'))
  clear ok
  have BL : Hid (∀ (W : World) o, Below W.heap.size W (W.alloc o)) := Lib.hid (fun W o => (Below.refl _ _).alloc (Nat.le_refl _) o)
  have R' := Lib.hid R
  obtain ⟨a, cap, rfl, ⟨hc, _⟩, hm, _⟩ := R
  unfold maxLen at hm
  obtain ⟨a', n', cap', rfl⟩ : ∃ a n c, v = .slice a n c := by obtain ⟨a, c, e, _⟩ := Q; exact ⟨a, _, c, e⟩
  unfold file at *
  have RT : Hid (∀ W : World, Below w.heap.size w W → 260 < m.length → Rd K4 W (.slice a 260 cap) (m.take 260)) := Lib.hid (fun W b h => (rd_cut R'.out rfl (by omega) (by omega)).below b)
  have RK : Hid (∀ W : World, Below w.heap.size w W → ¬ 260 < m.length → Rd K4 W (.slice a m.length cap) (m.take 260)) := Lib.hid (fun W b h => by rw [List.take_of_length_le (by omega)]; exact R'.out.below b)
  generalize m.take 260 = m2 at *
  generalize hN : m.length = N at *
  have HN := Lib.hid hN
  clear hN
  have Q0 := Lib.hid Q
  clear Q
  have B0 := Lib.hid (BL.out w (.cells #[.int .i64 p, .slice a N cap] 25))
  go_enter Try.func3, Try.ntmps3
  go_upto_region 2 with fail
  have Z1 : Hid ((w.alloc (.cells #[.int .i64 p, .slice a N cap] 25)).heap.size = w.heap.size + 1) := Lib.hid (by simp)
  have B1 := Lib.hid (B0.out.alloc B0.out.size (.cells #[.int .i64 p, .slice a N cap] 25))
  have X1 : ((w.alloc (.cells #[.int .i64 p, .slice a N cap] 25)).alloc (.cells #[.int .i64 p, .slice a N cap] 25)).heap[w.heap.size + 1]? = some (.cells #[.int .i64 p, .slice a N cap] 25 (0, 0)) := by
    have := heap_alloc_new (w.alloc (.cells #[.int .i64 p, .slice a N cap] 25)) (.cells #[.int .i64 p, .slice a N cap] 25)
    rw [Z1.out] at this
    exact this
  clear B0 Z1
  generalize (w.alloc (.cells #[.int .i64 p, .slice a N cap] 25)).alloc (.cells #[.int .i64 p, .slice a N cap] 25) = W1 at *
  generalize hg : w.heap.size + 1 = g at *
  have HG := Lib.hid hg
  clear hg
  have c0 : W1.cell? ⟨g, 0, none⟩ = some (.int .i64 p) := row_cell X1 0
  have c1 : W1.cell? ⟨g, 1, none⟩ = some (.slice a N cap) := row_cell X1 1
  have f1 := row_frozen X1 1
  have X1' := Lib.hid X1
  clear X1
  by_cases h : 260 < N
  case' pos =>
    have hi : (260 : Int) < N := by omega
    have hc2 : 260 ≤ cap := by omega
    have B2 := Lib.hid (B1.out.setCell (p := ⟨g, 1, none⟩) (by have := HG.out; show w.heap.size ≤ g; omega) (.slice a 260 cap))
    have H := Lib.hid (show Hold w (.slice a' n' cap') l p (.slice a 260 cap) m2 g (W1.setCell ⟨g, 1, none⟩ (.slice a 260 cap)) from ⟨B2.out, Rw.heap_setCell_same X1'.out _, Q0.out.below B2.out, RT.out _ B2.out (by omega)⟩)
    clear RT RK B1 B2 X1'
    go_upto_region 4 with fail
    clear c0 c1 f1 hi hc2 h
    generalize W1.setCell ⟨g, 1, none⟩ (.slice a 260 cap) = W at *
    generalize (260 : Nat) = M at H
  case' neg =>
    have hi : ¬ (260 : Int) < N := by omega
    have H := Lib.hid (show Hold w (.slice a' n' cap') l p (.slice a N cap) m2 g W1 from ⟨B1.out, X1'.out, Q0.out.below B1.out, RK.out _ B1.out h⟩)
    clear RT RK B1 X1'
    go_upto_region 4 with fail
    clear c0 c1 f1 hi h
    generalize W1 = W at *
    generalize N = M at H
  all_goals
    clear R' HN HG
    go_wp2_with fail
    refine (SO.out _ _ H.out.q).mono ?_
    rintro e w1 ⟨u1, rfl, r1, b1⟩
    obtain ⟨a1, n1, k1, rfl⟩ : ∃ a n c, u1 = .slice a n c := by obtain ⟨a, c, e, _⟩ := r1; exact ⟨a, _, c, e⟩
    go_wp2_with fail
    refine (F1.out _ _ r1).mono ?_
    rintro e w2 ⟨u2, rfl, r2, b2⟩
    obtain ⟨a2, n2, k2, rfl⟩ : ∃ a n c, u2 = .slice a n c := by obtain ⟨a, c, e, _⟩ := r2; exact ⟨a, _, c, e⟩
    have b2' := (b1.trans (b2.mono b1.size)).alloc (Nat.le_trans b1.size b2.size) (.cells #[.int .i64 fp, .slice a2 n2 k2] 25)
    have H2 := Lib.hid (H.out.mono b2')
    have Y2 := Lib.hid (heap_alloc_new w2 (.cells #[.int .i64 fp, .slice a2 n2 k2] 25))
    have P2 := Lib.hid (r2.below (BL.out w2 (.cells #[.int .i64 fp, .slice a2 n2 k2] 25)))
    clear b1 b2 b2' r1 r2 H F1
    go_upto_region 5 with fail
    generalize w2.alloc (.cells #[.int .i64 fp, .slice a2 n2 k2] 25) = W2 at *
    generalize w2.heap.size = g2 at *
    go_wp2_with fail
    refine (SO.out _ _ H2.out.q).mono ?_
    rintro e w3 ⟨u3, rfl, r3, b3⟩
    obtain ⟨a3, n3, k3, rfl⟩ : ∃ a n c, u3 = .slice a n c := by obtain ⟨a, c, e, _⟩ := r3; exact ⟨a, _, c, e⟩
    go_wp2_with fail
    refine (F2.out _ _ r3).mono ?_
    rintro e w4 ⟨u4, rfl, r4, b4⟩
    obtain ⟨a4, n4, k4, rfl⟩ : ∃ a n c, u4 = .slice a n c := by obtain ⟨a, c, e, _⟩ := r4; exact ⟨a, _, c, e⟩
    have b4' := (b3.trans (b4.mono b3.size)).alloc (Nat.le_trans b3.size b4.size) (.cells #[.int .i64 fp, .slice a4 n4 k4] 25)
    have H4 := Lib.hid (H2.out.mono b4')
    have P4 := Lib.hid (P2.out.below b4')
    have Y4 := Lib.hid ((b4'.block _ (lt_of_block Y2.out)).trans Y2.out)
    have Z4 := Lib.hid (heap_alloc_new w4 (.cells #[.int .i64 fp, .slice a4 n4 k4] 25))
    have O4 := Lib.hid (r4.below (BL.out w4 (.cells #[.int .i64 fp, .slice a4 n4 k4] 25)))
    clear b3 b4 b4' r3 r4 H2 F2 P2 Y2
    go_upto_region 6 with fail
    generalize w4.alloc (.cells #[.int .i64 fp, .slice a4 n4 k4] 25) = W4 at *
    generalize w4.heap.size = g4 at *
    have c0 : W4.cell? ⟨g, 0, none⟩ = some (.int .i64 p) := row_cell H4.out.row 0
    have c1 : W4.cell? ⟨g, 1, none⟩ = some (.slice a M cap) := row_cell H4.out.row 1
    go_wp2_with fail
    refine (S1.out _ _ H4.out.r).mono ?_
    rintro e w5 ⟨u5, rfl, r5, b5⟩
    obtain ⟨a5, n5, k5, rfl⟩ : ∃ a n c, u5 = .slice a n c := by obtain ⟨a, c, e, _⟩ := r5; exact ⟨a, _, c, e⟩
    have H5 := Lib.hid (H4.out.mono b5)
    have P5 := Lib.hid (P4.out.below b5)
    have O5 := Lib.hid (O4.out.below b5)
    have Y5 := Lib.hid ((b5.block _ (lt_of_block Y4.out)).trans Y4.out)
    have Z5 := Lib.hid ((b5.block _ (lt_of_block Z4.out)).trans Z4.out)
    have A5 := Lib.hid r5
    clear b5 r5 c0 c1 H4 P4 O4 Y4 Z4 S1
    go_upto_region 7 with fail
    have c0 : w5.cell? ⟨g, 0, none⟩ = some (.int .i64 p) := row_cell H5.out.row 0
    have c1 : w5.cell? ⟨g, 1, none⟩ = some (.slice a M cap) := row_cell H5.out.row 1
    go_wp2_with fail
    refine (S2.out _ _ H5.out.r).mono ?_
    rintro e w6 ⟨u6, rfl, r6, b6⟩
    obtain ⟨a6, n6, k6, rfl⟩ : ∃ a n c, u6 = .slice a n c := by obtain ⟨a, c, e, _⟩ := r6; exact ⟨a, _, c, e⟩
    have H6 := Lib.hid (H5.out.mono b6)
    have P6 := Lib.hid (P5.out.below b6)
    have O6 := Lib.hid (O5.out.below b6)
    have Y6 := Lib.hid ((b6.block _ (lt_of_block Y5.out)).trans Y5.out)
    have Z6 := Lib.hid ((b6.block _ (lt_of_block Z5.out)).trans Z5.out)
    have A6 := Lib.hid (A5.out.below b6)
    have D6 := Lib.hid r6
    clear b6 r6 c0 c1 H5 P5 O5 Y5 Z5 A5 S2
    go_upto_region 8 with fail
    go_wp2_with fail
    refine (SO.out _ _ H6.out.q).mono ?_
    rintro e w7 ⟨u7, rfl, r7, b7⟩
    obtain ⟨a7, n7, k7, rfl⟩ : ∃ a n c, u7 = .slice a n c := by obtain ⟨a, c, e, _⟩ := r7; exact ⟨a, _, c, e⟩
    go_wp2_with fail
    refine (N1.out _ _ r7).mono ?_
    rintro e w8 ⟨rfl, b8⟩
    have b8' := b7.trans (b8.mono b7.size)
    have H8 := Lib.hid (H6.out.mono b8')
    have P8 := Lib.hid (P6.out.below b8')
    have O8 := Lib.hid (O6.out.below b8')
    have Y8 := Lib.hid ((b8'.block _ (lt_of_block Y6.out)).trans Y6.out)
    have Z8 := Lib.hid ((b8'.block _ (lt_of_block Z6.out)).trans Z6.out)
    have A8 := Lib.hid (A6.out.below b8')
    have D8 := Lib.hid (D6.out.below b8')
    clear b7 b8 b8' r7 H6 P6 O6 Y6 Z6 A6 D6 N1
    go_upto_region 9 with fail
    go_wp2_with fail
    refine (SO.out _ _ H8.out.q).mono ?_
    rintro e w9 ⟨u9, rfl, r9, b9⟩
    obtain ⟨a9, n9, k9, rfl⟩ : ∃ a n c, u9 = .slice a n c := by obtain ⟨a, c, e, _⟩ := r9; exact ⟨a, _, c, e⟩
    go_wp2_with fail
    refine (N2.out _ _ r9).mono ?_
    rintro e wA ⟨rfl, bA⟩
    have bA' := b9.trans (bA.mono b9.size)
    have BA := Lib.hid (H8.out.bel.trans (bA'.mono H8.out.bel.size))
    have PA := Lib.hid (P8.out.below bA')
    have OA := Lib.hid (O8.out.below bA')
    have YA := Lib.hid ((bA'.block _ (lt_of_block Y8.out)).trans Y8.out)
    have ZA := Lib.hid ((bA'.block _ (lt_of_block Z8.out)).trans Z8.out)
    have AA := Lib.hid (A8.out.below bA')
    have DA := Lib.hid (D8.out.below bA')
    clear b9 bA bA' r9 H8 P8 O8 Y8 Z8 A8 D8 N2 SO
    go_upto_region 10 with fail
    go_wp2_with fail
    refine (awake_any _).mono ?_
    rintro e wB ⟨rfl, bB⟩
    have BB := Lib.hid (BA.out.trans (bB.mono BA.out.size))
    have PB := Lib.hid (PA.out.below bB)
    have OB := Lib.hid (OA.out.below bB)
    have YB := (bB.block _ (lt_of_block YA.out)).trans YA.out
    have ZB := (bB.block _ (lt_of_block ZA.out)).trans ZA.out
    have AB := Lib.hid (AA.out.below bB)
    have DB := Lib.hid (DA.out.below bB)
    have d0 : wB.cell? ⟨g2, 0, none⟩ = some (.int .i64 fp) := row_cell YB 0
    have d1 : wB.cell? ⟨g2, 1, none⟩ = some (.slice a2 n2 k2) := row_cell YB 1
    have e0 : wB.cell? ⟨g4, 0, none⟩ = some (.int .i64 fp) := row_cell ZB 0
    have e1 : wB.cell? ⟨g4, 1, none⟩ = some (.slice a4 n4 k4) := row_cell ZB 1
    clear bB BA PA OA YA ZA AA DA YB ZB
    go_wp2_with fail
    refine (SF.out _ _ _ PB.out OB.out).mono ?_
    rintro e wC ⟨rfl, bC⟩
    have BC := Lib.hid (BB.out.trans (bC.mono BB.out.size))
    have AC := Lib.hid (AB.out.below bC)
    have DC := Lib.hid (DB.out.below bC)
    clear bC d0 d1 e0 e1 PB OB BB AB DB SF
    go_wp2_with fail
    refine (SA.out _ _ _ AC.out DC.out).mono ?_
    rintro e wD ⟨rfl, bD⟩
    have BD := Lib.hid (BC.out.trans (bD.mono BC.out.size))
    clear bD AC DC BC SA
    go_wp2
    go_ret
    exact ⟨ret_bool (by first | rfl | simp), BD.out⟩

end Go.Proofs.Ytghdjdejdpknjaa.Re
