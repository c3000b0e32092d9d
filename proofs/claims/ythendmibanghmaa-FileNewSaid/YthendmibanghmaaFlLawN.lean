/- FileNew, walked. -/
import Derived.Test.YthendmibanghmaaFlSame
import Derived.Test.YthendmibanghmaaFlGood
import Derived.Test.YthendmibanghmaaFlAwake
import Derived.Test.YthendmibanghmaaFlFew
import Derived.Test.YthendmibanghmaaSd
import Derived.Deep.Cut
namespace Go.Proofs.Ythendmibanghmaa.Fl
open Go.RowKit
open Go.Proofs.Ythendmibanghmaa.Rw (Rd Ow At)
attribute [local irreducible] Sd.wpSd wpQuiet

theorem new_good (p n : Int) : goodFB (if newP p n then p else 0) (if newP p n then newL p n else []) = ((if newP p n then (0 : Int) else 1) == 0) := by
  by_cases h : newP p n
  · rw [if_pos h, if_pos h, if_pos h]
    obtain ⟨h1, h2, h3, h4⟩ := h
    have hl : (newL p n).length = n.toNat + 1 := by simp [newL]
    have e : ((newL p n).length : Int) - 1 = n := by omega
    refine decide_eq_true ⟨h1, h2, by omega, by omega, ?_⟩
    rw [e]
    rfl
  · rw [if_neg h, if_neg h, if_neg h]
    rfl

set_option maxHeartbeats 2000000 in
theorem new_law (w : World) (p n pa pb : Int) (va vb : Value) (la lb : List R4) (Ra : Rd K4 w va la) (Rb : Rd K4 w vb lb) :
    Calls Try.prog 4 #[.int .i64 p, .int .i64 n, file pa va, file pb vb] w fun e w' => e = .returned (.bool true) ∧ Below w.heap.size w w' := by
  have bb := ((Below.refl w.heap.size w).alloc (Nat.le_refl _) (.cells #[.int .i64 pa, va] 24)).alloc (by simp) (.cells #[.int .i64 pb, vb] 24)
  have B0 := Lib.hid bb
  have RA := Lib.hid (Ra.below bb)
  have RB := Lib.hid (Rb.below bb)
  have N1 := Lib.hid (new_any ((w.alloc (.cells #[.int .i64 pa, va] 24)).alloc (.cells #[.int .i64 pb, vb] 24)) p n)
  have N2 := Lib.hid (fun W => rnew_any W p n)
  have HG := Lib.hid (new_good p n)
  unfold NewPost at N1 N2
  generalize (if newP p n then p else 0) = q at *
  generalize (if newP p n then newL p n else []) = m at *
  generalize (if newP p n then (0 : Int) else 1) = d at *
  clear bb Ra Rb
  obtain ⟨a1, n1, c1, rfl⟩ : ∃ a n c, va = .slice a n c := by obtain ⟨a, c, e, _⟩ := RA.out; exact ⟨a, _, c, e⟩
  obtain ⟨a2, n2, c2, rfl⟩ : ∃ a n c, vb = .slice a n c := by obtain ⟨a, c, e, _⟩ := RB.out; exact ⟨a, _, c, e⟩
  unfold file at *
  have k0 : ((w.alloc (.cells #[.int .i64 pa, .slice a1 n1 c1] 24)).alloc (.cells #[.int .i64 pb, .slice a2 n2 c2] 24)).cell? ⟨w.heap.size, 0, none⟩ = some (.int .i64 pa) := by go_simp
  have k1 : ((w.alloc (.cells #[.int .i64 pa, .slice a1 n1 c1] 24)).alloc (.cells #[.int .i64 pb, .slice a2 n2 c2] 24)).cell? ⟨w.heap.size, 1, none⟩ = some (.slice a1 n1 c1) := by go_simp
  have k2 : ((w.alloc (.cells #[.int .i64 pa, .slice a1 n1 c1] 24)).alloc (.cells #[.int .i64 pb, .slice a2 n2 c2] 24)).cell? ⟨w.heap.size + 1, 0, none⟩ = some (.int .i64 pb) := by go_simp
  have k3 : ((w.alloc (.cells #[.int .i64 pa, .slice a1 n1 c1] 24)).alloc (.cells #[.int .i64 pb, .slice a2 n2 c2] 24)).cell? ⟨w.heap.size + 1, 1, none⟩ = some (.slice a2 n2 c2) := by go_simp
  have KA := Lib.hid (And.intro (And.intro k0 k1) (And.intro k2 k3))
  clear k0 k1 k2 k3
  go_enter Try.func4, Try.ntmps4
  go_wp2_with fail
  generalize (w.alloc (.cells #[.int .i64 pa, .slice a1 n1 c1] 24)).alloc (.cells #[.int .i64 pb, .slice a2 n2 c2] 24) = W at *
  refine N1.out.mono ?_
  rintro e w1 ⟨u1, rfl, r1, b1⟩
  obtain ⟨x1, y1, z1, rfl⟩ : ∃ a n c, u1 = .slice a n c := by obtain ⟨a, c, e, _⟩ := r1; exact ⟨a, _, c, e⟩
  have bz := (Below.refl w1.heap.size w1).alloc (Nat.le_refl _) (.cells #[.int .i64 q, .slice x1 y1 z1] 24)
  have B1 := Lib.hid (b1.trans (bz.mono b1.size))
  have R1 := Lib.hid (r1.below bz)
  have F1 := Lib.hid (heap_alloc_new w1 (.cells #[.int .i64 q, .slice x1 y1 z1] 24))
  clear r1 b1 bz N1
  go_wp2_with fail
  generalize w1.alloc (.cells #[.int .i64 q, .slice x1 y1 z1] 24) = W1 at *
  refine (N2.out _).mono ?_
  rintro e w2 ⟨u2, rfl, r2, b2⟩
  obtain ⟨x2, y2, z2, rfl⟩ : ∃ a n c, u2 = .slice a n c := by obtain ⟨a, c, e, _⟩ := r2; exact ⟨a, _, c, e⟩
  have bz := (Below.refl w2.heap.size w2).alloc (Nat.le_refl _) (.cells #[.int .i64 q, .slice x2 y2 z2] 24)
  have bb := b2.trans (bz.mono b2.size)
  have B2 := Lib.hid (B1.out.trans (bb.mono B1.out.size))
  have R2 := Lib.hid (r2.below bz)
  have R1' := Lib.hid (R1.out.below bb)
  have F1' := Lib.hid ((bb.block _ (lt_of_block F1.out)).trans F1.out)
  have F2 := Lib.hid (heap_alloc_new w2 (.cells #[.int .i64 q, .slice x2 y2 z2] 24))
  clear r2 b2 bz bb N2 R1 F1 B1
  go_upto_region 3 with fail
  generalize w2.alloc (.cells #[.int .i64 q, .slice x2 y2 z2] 24) = V at *
  have s0 := Sd.cell_by ((B2.out.cell (World.block_lt_of_cell? _ _ KA.out.1.1)).trans KA.out.1.1)
  have s1 := Sd.cell_by ((B2.out.cell (World.block_lt_of_cell? _ _ KA.out.1.2)).trans KA.out.1.2)
  have s2 := Sd.cell_by ((B2.out.cell (World.block_lt_of_cell? _ _ KA.out.2.1)).trans KA.out.2.1)
  have s3 := Sd.cell_by ((B2.out.cell (World.block_lt_of_cell? _ _ KA.out.2.2)).trans KA.out.2.2)
  have G0 := Sd.cell_by (show V.cell? ⟨w1.heap.size, 0, none⟩ = some (.int .i64 q) from row_cell F1'.out 0)
  have G1 := Sd.cell_by (show V.cell? ⟨w1.heap.size, 1, none⟩ = some (.slice x1 y1 z1) from row_cell F1'.out 1)
  have G2 := Sd.cell_by (show V.cell? ⟨w2.heap.size, 0, none⟩ = some (.int .i64 q) from row_cell F2.out 0)
  have G3 := Sd.cell_by (show V.cell? ⟨w2.heap.size, 1, none⟩ = some (.slice x2 y2 z2) from row_cell F2.out 1)
  have RAV := Lib.hid (RA.out.below B2.out)
  have RBV := Lib.hid (RB.out.below B2.out)
  clear KA F1' F2 RA RB
  refine Sd.start [(true, 0), (false, 1), (false, 2), (false, 3), (true, 4), (false, 5), (false, 6), (false, 7), (false, 8), (false, 9), (false, 10), (false, 11), (false, 12), (false, 14), (false, 17), (false, 19), (true, 13), (true, 15), (true, 16), (true, 18), (true, 20), (true, 21), (false, 22), (false, 23), (false, 24), (false, 25), (false, 27), (false, 28), (true, 26), (false, 29), (false, 30), (false, 31)] (by kernel_rfl) (by kernel_rfl) (by kernel_rfl) ?_
  dsimp only [Sd.picks, List.getElem?_cons_succ, List.getElem?_cons_zero]
  refine Sd.call (by rfl) (fun K hK => ?_)
  go_simp
  refine (awake_any _).mono ?_
  rintro e v1 ⟨rfl, b1⟩
  have C1 := Lib.hid (Below.trans ((Below.refl V.heap.size V).drew) b1)
  refine hK _ _ (Sd.Cl.of C1.out) ?_
  clear hK K b1
  repeat (refine Sd.lit ?_; quiet_step (fail); refine wpQuiet_nil ?_)
  refine Sd.call (by rfl) (fun K hK => ?_)
  go_simp
  refine (at_bool (show sameF q m q m = true by simp [sameF]) (rsame_any _ q q _ _ m m (R1'.out.below C1.out) (R2.out.below C1.out))).mono ?_
  rintro e v2 ⟨rfl, b2⟩
  have C2 := Lib.hid (C1.out.trans (b2.mono C1.out.size))
  refine hK _ _ (Sd.Cl.of C2.out) ?_
  clear hK K b2 C1
  repeat (refine Sd.lit ?_; quiet_step (fail); refine wpQuiet_nil ?_)
  refine Sd.call (by rfl) (fun K hK => ?_)
  go_simp
  refine (few_any _ pa _ la (RAV.out.below C2.out)).mono ?_
  rintro e v3 ⟨f3, rfl, r3, b3⟩
  have C3 := Lib.hid (C2.out.trans (b3.mono C2.out.size))
  have P3 := Lib.hid r3
  refine hK _ _ (Sd.Cl.of C3.out) ?_
  clear hK K b3 r3 C2
  refine Sd.call (by rfl) (fun K hK => ?_)
  go_simp
  refine (few_any _ pb _ lb (RBV.out.below C3.out)).mono ?_
  rintro e v4 ⟨f4, rfl, r4, b4⟩
  have C4 := Lib.hid (C3.out.trans (b4.mono C3.out.size))
  have P4 := Lib.hid r4
  have P3' := Lib.hid (P3.out.below b4)
  refine hK _ _ (Sd.Cl.of C4.out) ?_
  clear hK K b4 r4 C3 P3
  refine Sd.call (by rfl) (fun K hK => ?_)
  go_simp
  refine (same_any _ pa pb _ _ _ _ P3'.out P4.out).mono ?_
  rintro e v5 ⟨rfl, b5⟩
  have C5 := Lib.hid (C4.out.trans (b5.mono C4.out.size))
  refine hK _ _ (Sd.Cl.of C5.out) ?_
  clear hK K b5 C4 P3' P4
  refine Sd.call (by rfl) (fun K hK => ?_)
  go_simp
  refine (few_any _ pa _ la (RAV.out.below C5.out)).mono ?_
  rintro e v6 ⟨f6, rfl, r6, b6⟩
  have C6 := Lib.hid (C5.out.trans (b6.mono C5.out.size))
  have P6 := Lib.hid r6
  refine hK _ _ (Sd.Cl.of C6.out) ?_
  clear hK K b6 r6 C5
  refine Sd.call (by rfl) (fun K hK => ?_)
  go_simp
  refine (few_any _ pb _ lb (RBV.out.below C6.out)).mono ?_
  rintro e v7 ⟨f7, rfl, r7, b7⟩
  have C7 := Lib.hid (C6.out.trans (b7.mono C6.out.size))
  have P7 := Lib.hid r7
  have P6' := Lib.hid (P6.out.below b7)
  refine hK _ _ (Sd.Cl.of C7.out) ?_
  clear hK K b7 r7 C6 P6
  refine Sd.call (by rfl) (fun K hK => ?_)
  go_simp
  refine (rsame_any _ pa pb _ _ _ _ P6'.out P7.out).mono ?_
  rintro e v8 ⟨rfl, b8⟩
  have C8 := Lib.hid (C7.out.trans (b8.mono C7.out.size))
  refine hK _ _ (Sd.Cl.of C8.out) ?_
  clear hK K b8 C7 P6' P7
  generalize sameF pa (la.take 260) pb (lb.take 260) = ss
  repeat (refine Sd.lit ?_; quiet_step (fail); refine wpQuiet_nil ?_)
  refine Sd.call (by rfl) (fun K hK => ?_)
  go_simp
  refine (good_any _ q _ m (R1'.out.below C8.out)).mono ?_
  rintro e v9 ⟨rfl, b9⟩
  have C9 := Lib.hid (C8.out.trans (b9.mono C8.out.size))
  refine hK _ _ (Sd.Cl.of C9.out) ?_
  clear hK K b9 C8
  generalize goodFB q m = gg at *
  repeat (refine Sd.lit ?_; quiet_step (fail); refine wpQuiet_nil ?_)
  refine Sd.done ?_
  go_wp2
  go_ret
  have BY := B0.out.trans (B2.out.mono B0.out.size)
  exact ⟨ret_bool (by rw [HG.out]; simp), BY.trans (C9.out.mono BY.size)⟩

end Go.Proofs.Ythendmibanghmaa.Fl
