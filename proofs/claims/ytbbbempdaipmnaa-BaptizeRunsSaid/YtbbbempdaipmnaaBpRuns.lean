/- BaptizeRuns: both sides answer the same functions of the list and of what is lost. -/
import Derived.Test.YtbbbempdaipmnaaBpAwake
namespace Go.Proofs.Ytbbbempdaipmnaa.Bp
open Go.RowKit
open Go.Proofs.Ytbbbempdaipmnaa.Rw (Rd Ow At)
open Go.Proofs.Ytbbbempdaipmnaa.Fl (ret_bool at_bool row_cell)
open Go.Proofs.Ytbbbempdaipmnaa.Nm (S sa Gd KV Fit FewPost sameB gdB gdB_iff)

theorem fit_take {l : List S} (h : Fit l) (n : Nat) : Fit (l.take n) := fun i hi => by
  have hl : i < l.length ∧ i < n := by rw [List.length_take] at hi; omega
  have : sa (l.take n) i = sa l i := by
    unfold sa
    rw [List.getD_eq_getElem?_getD, List.getD_eq_getElem?_getD, List.getElem?_take, if_pos hl.2]
  rw [this]
  exact h i hl.1
theorem rd_form {α : Type} {K : Rw.Kind α} {w : World} {v : Value} {l : List α} (R : Rd K w v l) : ∃ a n c, v = .slice a n c := by
  obtain ⟨a, c, e, _⟩ := R.slice
  exact ⟨a, _, c, e⟩

set_option maxHeartbeats 4000000 in
set_option maxRecDepth 100000 in
theorem runs_law (w : World) (v u : Value) (l : List S) (L : List Bool) (most c : Int) (R : Rd KV w v l) (F : Fit l) (G : Rd KG w u L) : Calls Try.prog 3 #[v, .int .i64 most, u, .int .u64 c] w fun e w' => e = .returned (.bool true) ∧ Below w.heap.size w w' := by
  have CF := Lib.hid (few_any w v l R)
  have F1 := Lib.hid (fit_take F 40)
  have L1 : Hid ((l.take 40).length ≤ 260) := Lib.hid (by rw [List.length_take]; omega)
  have L2 : Hid ((L.take 600).length ≤ 1000) := Lib.hid (by rw [List.length_take]; omega)
  have G0 := Lib.hid G
  have CSO := Lib.hid (fun W (b : Below w.heap.size w W) => some_any W u L (G.below b))
  obtain ⟨a, n, cap, rfl⟩ := rd_form R
  obtain ⟨a', n', cap', rfl⟩ := rd_form G
  clear R F G
  unfold FewPost at CF
  unfold SomePost at CSO
  generalize l.take 40 = x at *
  generalize L.take 600 = y at *
  go_enter Try.func3, Try.ntmps3
  go_wp2_with fail
  refine CF.out.mono ?_
  rintro e w1 ⟨ux, rfl, r1, b1⟩
  obtain ⟨a1, n1, c1, rfl⟩ := rd_form r1
  have B1 := Lib.hid b1
  have R1 := Lib.hid r1
  have C1 := Lib.hid (Nm.rgood_any w1 _ x r1)
  clear b1 r1 CF
  rcases hq : gdB x with _ | _
  · rw [hq] at C1
    clear hq
    go_wp2_with fail
    refine C1.out.mono ?_
    rintro e w4 ⟨rfl, b4⟩
    have B4 := Lib.hid (B1.out.trans (b4.mono B1.out.size))
    have C4 := Lib.hid (awake_any w4)
    clear b4 C1 B1 R1
    go_wp2_with fail
    refine C4.out.mono ?_
    rintro e w5 ⟨rfl, b5⟩
    have B5 := Lib.hid (B4.out.trans (b5.mono B4.out.size))
    clear b5 C4 B4
    go_wp2
    go_ret
    exact ⟨rfl, B5.out⟩
  · rw [hq] at C1
    have GX := Lib.hid (gdB_iff.1 hq)
    clear hq
    have K1 := Lib.hid (fun W u (R : Rd KV W (.slice a1 n1 c1) x) (G : Rd KG W u y) => run_any W _ u x y R F1.out GX.out G L2.out most)
    have K2 := Lib.hid (fun W u (R : Rd KV W (.slice a1 n1 c1) x) (G : Rd KG W u y) => rrun_any W _ u x y R F1.out G L1.out L2.out most)
    have K3 := Lib.hid (fun W u (R : Rd KV W (.slice a1 n1 c1) x) (G : Rd KG W u y) => search_any W _ u x y R G)
    have K4 : Hid (∀ W u, Rd KV W (.slice a1 n1 c1) x → Rd KG W u y → Calls Try.prog 12 #[.slice a1 n1 c1, u, .int .i64 0] W (SearchPost W x y 0)) := Lib.hid (fun W u R G => rsearch_any W _ u x y 0 R G (by omega))
    have K5 := Lib.hid (fun W (R : Rd KV W (.slice a1 n1 c1) x) => answers_any W _ x R c)
    have K6 := Lib.hid (fun W (R : Rd KV W (.slice a1 n1 c1) x) => ranswers_any W _ x R c)
    unfold RunPost at K1 K2
    unfold SearchPost at K3 K4
    clear F1 L1 L2 GX
    generalize (rnN x most y : Int) = rN at *
    generalize rnE x most y = rE at *
    generalize rnL x most y = rL at *
    generalize sP x y 0 = sp at *
    generalize (sN x y 0 : Int) = sn at *
    generalize sB x y 0 = sb at *
    generalize ans x c = an at *
    go_wp2_with fail
    refine C1.out.mono ?_
    rintro e w2 ⟨rfl, b2⟩
    have B2 := Lib.hid (B1.out.trans (b2.mono B1.out.size))
    have R2 := Lib.hid (R1.out.below b2)
    have C2 := Lib.hid (CSO.out w2 B2.out)
    clear b2 C1 B1 R1
    go_wp2_with fail
    refine C2.out.mono ?_
    rintro e w3 ⟨us3, rfl, g3, b3⟩
    obtain ⟨as3, ns3, cs3, rfl⟩ := rd_form g3
    have B3 := Lib.hid (B2.out.trans (b3.mono B2.out.size))
    have R3 := Lib.hid (R2.out.below b3)
    have C3 := Lib.hid (K1.out w3 _ R3.out g3)
    clear b3 g3 C2 B2 R2 
    go_wp2_with fail
    refine C3.out.mono ?_
    rintro e w4 ⟨uo4, rfl, o4, b4⟩
    obtain ⟨ao4, no4, co4, rfl⟩ := rd_form o4.rd
    have B4 := Lib.hid (B3.out.trans (b4.mono B3.out.size))
    have R4 := Lib.hid (R3.out.below b4)
    have X4 := Lib.hid o4.rd
    have C4 := Lib.hid (CSO.out w4 B4.out)
    clear b4 o4 C3 B3 R3 
    go_wp2_with fail
    refine C4.out.mono ?_
    rintro e w5 ⟨us5, rfl, g5, b5⟩
    obtain ⟨as5, ns5, cs5, rfl⟩ := rd_form g5
    have B5 := Lib.hid (B4.out.trans (b5.mono B4.out.size))
    have R5 := Lib.hid (R4.out.below b5)
    have X5 := Lib.hid (X4.out.below b5)
    have C5 := Lib.hid (K2.out w5 _ R5.out g5)
    clear b5 g5 C4 B4 R4 X4
    go_wp2_with fail
    refine C5.out.mono ?_
    rintro e w6 ⟨uo6, rfl, o6, b6⟩
    obtain ⟨ao6, no6, co6, rfl⟩ := rd_form o6.rd
    have B6 := Lib.hid (B5.out.trans (b6.mono B5.out.size))
    have R6 := Lib.hid (R5.out.below b6)
    have X6 := Lib.hid (X5.out.below b6)
    have Y6 := Lib.hid o6.rd
    have C6 := Lib.hid (CSO.out w6 B6.out)
    clear b6 o6 C5 B5 R5 X5
    go_wp2_with fail
    refine C6.out.mono ?_
    rintro e w7 ⟨us7, rfl, g7, b7⟩
    obtain ⟨as7, ns7, cs7, rfl⟩ := rd_form g7
    have B7 := Lib.hid (B6.out.trans (b7.mono B6.out.size))
    have R7 := Lib.hid (R6.out.below b7)
    have X7 := Lib.hid (X6.out.below b7)
    have Y7 := Lib.hid (Y6.out.below b7)
    have C7 := Lib.hid (K3.out w7 _ R7.out g7)
    clear b7 g7 C6 B6 R6 X6 Y6
    go_wp2_with fail
    refine C7.out.mono ?_
    rintro e w8 ⟨rfl, b8⟩
    have B8 := Lib.hid (B7.out.trans (b8.mono B7.out.size))
    have R8 := Lib.hid (R7.out.below b8)
    have X8 := Lib.hid (X7.out.below b8)
    have Y8 := Lib.hid (Y7.out.below b8)
    have C8 := Lib.hid (CSO.out w8 B8.out)
    clear b8 C7 B7 R7 X7 Y7
    go_wp2_with fail
    refine C8.out.mono ?_
    rintro e w9 ⟨us9, rfl, g9, b9⟩
    obtain ⟨as9, ns9, cs9, rfl⟩ := rd_form g9
    have B9 := Lib.hid (B8.out.trans (b9.mono B8.out.size))
    have R9 := Lib.hid (R8.out.below b9)
    have X9 := Lib.hid (X8.out.below b9)
    have Y9 := Lib.hid (Y8.out.below b9)
    have C9 := Lib.hid (K4.out w9 _ R9.out g9)
    clear b9 g9 C8 B8 R8 X8 Y8
    go_wp2_with fail
    refine C9.out.mono ?_
    rintro e w10 ⟨rfl, b10⟩
    have B10 := Lib.hid (B9.out.trans (b10.mono B9.out.size))
    have R10 := Lib.hid (R9.out.below b10)
    have X10 := Lib.hid (X9.out.below b10)
    have Y10 := Lib.hid (Y9.out.below b10)
    have C10 := Lib.hid (awake_any w10)
    clear b10 C9 B9 R9 X9 Y9
    go_wp2_with fail
    refine C10.out.mono ?_
    rintro e w11 ⟨rfl, b11⟩
    have B11 := Lib.hid (B10.out.trans (b11.mono B10.out.size))
    have R11 := Lib.hid (R10.out.below b11)
    have X11 := Lib.hid (X10.out.below b11)
    have Y11 := Lib.hid (Y10.out.below b11)
    have C11 := Lib.hid (at_bool (show sameB rL rL = true from decide_eq_true rfl) (Nm.rsame_any w11 _ _ rL rL X11.out Y11.out))
    clear b11 C10 B10 R10 X10 Y10
    go_wp2_with fail
    refine C11.out.mono ?_
    rintro e w12 ⟨rfl, b12⟩
    have B12 := Lib.hid (B11.out.trans (b12.mono B11.out.size))
    have R12 := Lib.hid (R11.out.below b12)
    have X12 := Lib.hid (X11.out.below b12)
    have Y12 := Lib.hid (Y11.out.below b12)
    have C12 := Lib.hid (K5.out w12 R12.out)
    clear b12 C11 B11 R11 X11 Y11
    go_wp2_with fail
    refine C12.out.mono ?_
    rintro e w13 ⟨rfl, b13⟩
    have B13 := Lib.hid (B12.out.trans (b13.mono B12.out.size))
    have R13 := Lib.hid (R12.out.below b13)
    have C13 := Lib.hid (K6.out w13 R13.out)
    clear b13 C12 B12 R12 
    go_wp2_with fail
    refine C13.out.mono ?_
    rintro e w14 ⟨rfl, b14⟩
    have B14 := Lib.hid (B13.out.trans (b14.mono B13.out.size))
    have R14 := Lib.hid (R13.out.below b14)
    clear b14 C13 B13 R13 
    go_wp2
    go_ret
    exact ⟨ret_bool (by simp), B14.out⟩

end Go.Proofs.Ytbbbempdaipmnaa.Bp
