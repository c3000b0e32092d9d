/- FileDoes, walked. -/
import Derived.Test.YthendmibanghmaaFlRdo
import Derived.Test.YthendmibanghmaaFlAwake
import Derived.Test.YthendmibanghmaaFlFew
import Derived.Test.YthendmibanghmaaSf
namespace Go.Proofs.Ythendmibanghmaa.Fl
open Go.RowKit
open Go.Proofs.Ythendmibanghmaa.Rw (Rd Ow At)
attribute [local irreducible] Sd.wpSd wpQuiet Sf.wpSf

set_option maxHeartbeats 2000000 in
theorem does_any (w : World) (p : Int) (v : Value) (l : List R4) (R : Rd K4 w v l) (hl : okL l) (op rec : Int) (x : R4) :
    Calls Try.prog 3 #[file p v, .int .i64 op, .int .i64 rec, rec4 x] w fun e w' => e = .returned (.bool true) ∧ Below w.heap.size w w' := by
  have bb := ((Below.refl w.heap.size w).alloc (Nat.le_refl _) (.cells #[.int .i64 p, v] 24)).alloc (by simp) (.cells #[.int .u8 x.1, .int .u8 x.2.1, .int .u8 x.2.2.1, .int .u8 x.2.2.2] 26)
  have B0 := Lib.hid bb
  have R0 := Lib.hid (R.below bb)
  have D1 : Hid (∀ W u, Rd K4 W u (l.take 260) → Calls Try.prog 6 #[file p u, .int .i64 op, .int .i64 rec, rec4 x] W (DoPost W p (l.take 260) op rec x)) := fun W u h => do_any W p u _ h (okL_take hl _) op rec x
  have D2 : Hid (∀ W u, Rd K4 W u (l.take 260) → Calls Try.prog 8 #[file p u, .int .i64 op, .int .i64 rec, rec4 x] W (DoPost W p (l.take 260) op rec x)) := fun W u h => rdo_any W p u _ h (okL_take hl _) op rec x
  unfold DoPost at D1 D2
  generalize (if doE p (l.take 260) op rec = 0 then p else 0) = q at *
  generalize (if doE p (l.take 260) op rec = 0 then newR (l.take 260) op rec x else z4) = y at *
  generalize (if doE p (l.take 260) op rec = 0 then (l.take 260).set rec.toNat (newR (l.take 260) op rec x) else []) = m at *
  generalize doE p (l.take 260) op rec = e at *
  clear bb R hl
  unfold file rec4 at *
  obtain ⟨a, n, cap, rfl⟩ : ∃ a n cap, v = .slice a n cap := by obtain ⟨a, cap, e, _⟩ := R0.out; exact ⟨a, _, cap, e⟩
  go_enter Try.func3, Try.ntmps3
  go_wp2_with fail
  have k0 : ((w.alloc (.cells #[.int .i64 p, .slice a n cap] 24)).alloc (.cells #[.int .u8 x.1, .int .u8 x.2.1, .int .u8 x.2.2.1, .int .u8 x.2.2.2] 26)).cell? ⟨w.heap.size, 0, none⟩ = some (.int .i64 p) := by go_simp
  have k1 : ((w.alloc (.cells #[.int .i64 p, .slice a n cap] 24)).alloc (.cells #[.int .u8 x.1, .int .u8 x.2.1, .int .u8 x.2.2.1, .int .u8 x.2.2.2] 26)).cell? ⟨w.heap.size, 1, none⟩ = some (.slice a n cap) := by go_simp
  have j0 : ((w.alloc (.cells #[.int .i64 p, .slice a n cap] 24)).alloc (.cells #[.int .u8 x.1, .int .u8 x.2.1, .int .u8 x.2.2.1, .int .u8 x.2.2.2] 26)).cell? ⟨w.heap.size + 1, 0, none⟩ = some (.int .u8 x.1) := by go_simp
  have j1 : ((w.alloc (.cells #[.int .i64 p, .slice a n cap] 24)).alloc (.cells #[.int .u8 x.1, .int .u8 x.2.1, .int .u8 x.2.2.1, .int .u8 x.2.2.2] 26)).cell? ⟨w.heap.size + 1, 1, none⟩ = some (.int .u8 x.2.1) := by go_simp
  have j2 : ((w.alloc (.cells #[.int .i64 p, .slice a n cap] 24)).alloc (.cells #[.int .u8 x.1, .int .u8 x.2.1, .int .u8 x.2.2.1, .int .u8 x.2.2.2] 26)).cell? ⟨w.heap.size + 1, 2, none⟩ = some (.int .u8 x.2.2.1) := by go_simp
  have j3 : ((w.alloc (.cells #[.int .i64 p, .slice a n cap] 24)).alloc (.cells #[.int .u8 x.1, .int .u8 x.2.1, .int .u8 x.2.2.1, .int .u8 x.2.2.2] 26)).cell? ⟨w.heap.size + 1, 3, none⟩ = some (.int .u8 x.2.2.2) := by go_simp
  generalize (w.alloc (.cells #[.int .i64 p, .slice a n cap] 24)).alloc (.cells #[.int .u8 x.1, .int .u8 x.2.1, .int .u8 x.2.2.1, .int .u8 x.2.2.2] 26) = W at *
  have KA := Lib.hid (And.intro (And.intro k0 k1) (And.intro (And.intro j0 j1) (And.intro j2 j3)))
  have s0 := Sd.cell_by k0
  have s1 := Sd.cell_by k1
  have t0 := Sd.cell_by j0
  have t1 := Sd.cell_by j1
  have t2 := Sd.cell_by j2
  have t3 := Sd.cell_by j3
  refine Sf.start [(0, 0), (0, 2), (0, 3), (0, 4), (1, 1), (1, 5), (0, 6), (0, 7), (0, 8), (0, 9), (2, 10), (2, 11), (1, 12), (1, 13), (0, 14)] [⟨10, 9, zFile, 24⟩, ⟨11, 10, zRec, 26⟩] (by kernel_rfl) (by kernel_rfl) (by kernel_rfl) (by decide) (by decide) ?_ ?_ ?_
  · simp
  · intro f hf
    simp only [List.mem_cons, List.not_mem_nil, or_false] at hf
    rcases hf with rfl | rfl
    · exact ⟨_, rfl, rfl, rfl, fun ρ w => by go_simp; rfl⟩
    · exact ⟨_, rfl, rfl, rfl, fun ρ w => by go_simp; rfl⟩
  dsimp only [Sf.picks, List.getElem?_cons_succ, List.getElem?_cons_zero]
  have BW := Lib.hid ((Below.refl W.heap.size W).drew)
  repeat (refine Sf.lit (fun xs => ?_); simp only [Sf.fill, List.foldl_cons, List.foldl_nil]; quiet_step (fail); refine wpQuiet_nil ?_)
  refine Sf.call (fun xs w3 hb hc => ⟨by rfl, fun K hK => ?_⟩)
  have B3 := Lib.hid (BW.out.trans (hb.mono BW.out.size))
  clear hb hc BW
  simp only [Sf.fill, List.foldl_cons, List.foldl_nil]
  go_simp
  refine (few_any _ p _ l (R0.out.below B3.out)).mono ?_
  rintro e4 w4 ⟨u4, rfl, r4, b4⟩
  have B4 := Lib.hid (B3.out.trans (b4.mono B3.out.size))
  have R4 := Lib.hid r4
  refine hK _ _ (Sd.Cl.of B4.out) b4.size (fun _ => b4) ?_
  clear hK K b4 r4 B3
  refine Sf.call (fun xs w5 hb hc => ⟨by rfl, fun K hK => ?_⟩)
  have B5 := Lib.hid (B4.out.trans (hb.mono B4.out.size))
  have R5 := Lib.hid (R4.out.below hb)
  clear hb hc B4 R4
  simp only [Sf.fill, List.foldl_cons, List.foldl_nil]
  go_simp
  refine (D1.out _ _ R5.out).mono ?_
  rintro e6 w6 ⟨u6, rfl, o6, b6⟩
  obtain ⟨a6, n6, c6, rfl⟩ : ∃ a n c, u6 = .slice a n c := by obtain ⟨a, c, e, _⟩ := o6.slice; exact ⟨_, _, _, e⟩
  have B6 := Lib.hid (B5.out.trans (b6.mono B5.out.size))
  have O6 := Lib.hid o6
  refine hK _ _ (Sd.Cl.of B6.out) b6.size (fun _ => b6) ?_
  clear hK K b6 o6 R5
  repeat (refine Sf.lit (fun xs => ?_); simp only [Sf.fill, List.foldl_cons, List.foldl_nil]; quiet_step (fail); refine wpQuiet_nil ?_)
  have NR : Hid (∀ g, (g < w5.heap.size ∨ w6.heap.size ≤ g) → Value.ownBlock (.slice a6 n6 c6) ≠ some g) := fun g hg => O6.out.range hg
  refine Sf.meet (fun g7 w7 hb hc row n7 hH hL => ?_)
  have B7 := Lib.hid (B6.out.trans (hb.mono B6.out.size))
  have N7 := Lib.hid (NR.out g7 (hH _ (List.mem_cons_self ..)))
  have O7 := Lib.hid (O6.out.keep hb)
  have R7 : Hid (w7.heap[g7]? = some (.cells zFile 24 (0, 0))) := row
  clear hb hc row hH hL B6 O6
  refine Sf.meet (fun g8 w8 hb hc row n8 hH hL => ?_)
  have B8 := Lib.hid (B7.out.trans (hb.mono B7.out.size))
  have N8 := Lib.hid (NR.out g8 (hH _ (List.mem_cons_self ..)))
  have O8 := Lib.hid (O7.out.keep hb)
  have R8 : Hid (w8.heap[g8]? = some (.cells zRec 26 (0, 0))) := row
  have R7' := Lib.hid ((hb.block _ (lt_of_block R7.out)).trans R7.out)
  have D78 : g8 ≠ g7 := fun e => hL (by rw [e]; exact List.mem_cons_self ..)
  clear hb hc row hH hL B7 O7 R7 NR
  refine Sf.call (fun xs w9 hb hc => ⟨by rfl, fun K hK => ?_⟩)
  have B9 := Lib.hid (B8.out.trans (hb.mono B8.out.size))
  have O9 := Lib.hid (O8.out.keep hb)
  have R8' := Lib.hid ((hb.block _ (lt_of_block R8.out)).trans R8.out)
  have R7'' := Lib.hid ((hb.block _ (lt_of_block R7'.out)).trans R7'.out)
  have c0 : w9.cell? ⟨g7, 0, none⟩ = some (.int .i64 0) := row_cell R7''.out 0
  have c1 : w9.cell? ⟨g7, 1, none⟩ = some (.slice none 0 0) := row_cell R7''.out 1
  have f0 := row_frozen R7''.out 0
  have f1 := row_frozen R7''.out 1
  clear hb hc B8 O8 R8 R7'
  simp only [Sf.fill, List.foldl_nil]
  go_simp
  have RA : Hid (((w9.setCell ⟨g7, 0, none⟩ (.int .i64 q)).setCell ⟨g7, 1, none⟩ (.slice a6 n6 c6)).heap[g7]? = some (.cells #[.int .i64 q, .slice a6 n6 c6] 24 (0, 0))) := Rw.heap_setCell_same (Rw.heap_setCell_same R7''.out _) _
  have RB : Hid (((w9.setCell ⟨g7, 0, none⟩ (.int .i64 q)).setCell ⟨g7, 1, none⟩ (.slice a6 n6 c6)).heap[g8]? = some (.cells zRec 26 (0, 0))) := (Below.heap_setCell _ _ _ _ D78).trans ((Below.heap_setCell _ _ _ _ D78).trans R8'.out)
  have BA := Lib.hid ((B9.out.setCell (p := ⟨g7, 0, none⟩) n7 (.int .i64 q)).setCell (p := ⟨g7, 1, none⟩) n7 (.slice a6 n6 c6))
  have OA := Lib.hid ((O9.out.off (p := ⟨g7, 0, none⟩) N7.out (.int .i64 q)).off (p := ⟨g7, 1, none⟩) N7.out (.slice a6 n6 c6))
  refine hK _ _ (Sd.Cl.of BA.out) (by simp) (fun h => absurd rfl h) ?_
  clear hK K c0 c1 f0 f1 B9 O9 R8' R7''
  generalize (w9.setCell ⟨g7, 0, none⟩ (.int .i64 q)).setCell ⟨g7, 1, none⟩ (.slice a6 n6 c6) = wA at *
  refine Sf.call (fun xs wB hb hc => ⟨by rfl, fun K hK => ?_⟩)
  have B9 := Lib.hid (BA.out.trans (hb.mono BA.out.size))
  have O9 := Lib.hid (OA.out.keep hb)
  have RA' := Lib.hid ((hb.block _ (lt_of_block RA.out)).trans RA.out)
  have RB' := Lib.hid ((hb.block _ (lt_of_block RB.out)).trans RB.out)
  have c0 : wB.cell? ⟨g8, 0, none⟩ = some (.int .u8 0) := row_cell RB'.out 0
  have c1 : wB.cell? ⟨g8, 1, none⟩ = some (.int .u8 0) := row_cell RB'.out 1
  have c2 : wB.cell? ⟨g8, 2, none⟩ = some (.int .u8 0) := row_cell RB'.out 2
  have c3 : wB.cell? ⟨g8, 3, none⟩ = some (.int .u8 0) := row_cell RB'.out 3
  have f0 := row_frozen RB'.out 0
  have f1 := row_frozen RB'.out 1
  have f2 := row_frozen RB'.out 2
  have f3 := row_frozen RB'.out 3
  clear hb hc BA OA RA RB
  simp only [Sf.fill, List.foldl_nil]
  go_simp
  have hw : ∀ (w' : World), w' = (((wB.setCell ⟨g8, 0, none⟩ (.int .u8 y.1)).setCell ⟨g8, 1, none⟩ (.int .u8 y.2.1)).setCell ⟨g8, 2, none⟩ (.int .u8 y.2.2.1)).setCell ⟨g8, 3, none⟩ (.int .u8 y.2.2.2) →
      Below W.heap.size W w' ∧ Ow K4 w' w5.heap.size 26 (.slice a6 n6 c6) m ∧ w'.heap[g7]? = some (.cells #[.int .i64 q, .slice a6 n6 c6] 24 (0, 0)) ∧ w'.heap[g8]? = some (.cells #[.int .u8 y.1, .int .u8 y.2.1, .int .u8 y.2.2.1, .int .u8 y.2.2.2] 26 (0, 0)) ∧ wB.heap.size ≤ w'.heap.size := by
    rintro w' rfl
    refine ⟨(((B9.out.setCell (p := ⟨g8, 0, none⟩) n8 _).setCell (p := ⟨g8, 1, none⟩) n8 _).setCell (p := ⟨g8, 2, none⟩) n8 _).setCell (p := ⟨g8, 3, none⟩) n8 _, (((O9.out.off (p := ⟨g8, 0, none⟩) N8.out _).off (p := ⟨g8, 1, none⟩) N8.out _).off (p := ⟨g8, 2, none⟩) N8.out _).off (p := ⟨g8, 3, none⟩) N8.out _, ?_, Rw.heap_setCell_same (Rw.heap_setCell_same (Rw.heap_setCell_same (Rw.heap_setCell_same RB'.out _) _) _) _, by simp⟩
    exact (Below.heap_setCell _ _ _ _ D78.symm).trans ((Below.heap_setCell _ _ _ _ D78.symm).trans ((Below.heap_setCell _ _ _ _ D78.symm).trans ((Below.heap_setCell _ _ _ _ D78.symm).trans RA'.out)))
  obtain ⟨h1, h2, h3, h4, h5⟩ := hw _ rfl
  have BC := Lib.hid h1
  have OC := Lib.hid h2
  have RC := Lib.hid h3
  have RD := Lib.hid h4
  refine hK _ _ (Sd.Cl.of BC.out) h5 (fun h => absurd rfl h) ?_
  clear hK K hw h1 h2 h3 h4 h5 c0 c1 c2 c3 f0 f1 f2 f3 B9 O9 RA' RB'
  generalize (((wB.setCell ⟨g8, 0, none⟩ (.int .u8 y.1)).setCell ⟨g8, 1, none⟩ (.int .u8 y.2.1)).setCell ⟨g8, 2, none⟩ (.int .u8 y.2.2.1)).setCell ⟨g8, 3, none⟩ (.int .u8 y.2.2.2) = wC at *
  repeat (refine Sf.lit (fun xs => ?_); simp only [Sf.fill, List.foldl_nil]; quiet_step (fail); refine wpQuiet_nil ?_)
  refine Sf.done (fun wD hb hc => ?_)
  have BD := Lib.hid (BC.out.trans (hb.mono BC.out.size))
  have OD := Lib.hid (OC.out.keep hb)
  have RC' := Lib.hid ((hb.block _ (lt_of_block RC.out)).trans RC.out)
  have RD' := Lib.hid ((hb.block _ (lt_of_block RD.out)).trans RD.out)
  clear hb hc BC OC RC RD s0 s1 t0 t1 t2 t3 k0 k1 j0 j1 j2 j3
  go_wp2_with fail
  have k0 := (BD.out.cell (World.block_lt_of_cell? _ _ KA.out.1.1)).trans KA.out.1.1
  have k1 := (BD.out.cell (World.block_lt_of_cell? _ _ KA.out.1.2)).trans KA.out.1.2
  have j0 := (BD.out.cell (World.block_lt_of_cell? _ _ KA.out.2.1.1)).trans KA.out.2.1.1
  have j1 := (BD.out.cell (World.block_lt_of_cell? _ _ KA.out.2.1.2)).trans KA.out.2.1.2
  have j2 := (BD.out.cell (World.block_lt_of_cell? _ _ KA.out.2.2.1)).trans KA.out.2.2.1
  have j3 := (BD.out.cell (World.block_lt_of_cell? _ _ KA.out.2.2.2)).trans KA.out.2.2.2
  have s0 := Sd.cell_by k0
  have s1 := Sd.cell_by k1
  have t0 := Sd.cell_by j0
  have t1 := Sd.cell_by j1
  have t2 := Sd.cell_by j2
  have t3 := Sd.cell_by j3
  refine Sf.start [(0, 0), (0, 2), (0, 3), (0, 4), (1, 1), (1, 5), (0, 6), (0, 7), (0, 8), (0, 9), (2, 10), (2, 11), (1, 12), (1, 13), (0, 14)] [⟨10, 12, zFile, 24⟩, ⟨11, 13, zRec, 26⟩] (by kernel_rfl) (by kernel_rfl) (by kernel_rfl) (by decide) (by decide) ?_ ?_ ?_
  · simp
  · intro f hf
    simp only [List.mem_cons, List.not_mem_nil, or_false] at hf
    rcases hf with rfl | rfl
    · exact ⟨_, rfl, rfl, rfl, fun ρ w => by go_simp; rfl⟩
    · exact ⟨_, rfl, rfl, rfl, fun ρ w => by go_simp; rfl⟩
  dsimp only [Sf.picks, List.getElem?_cons_succ, List.getElem?_cons_zero]
  have BW := Lib.hid ((Below.refl wD.heap.size wD).drew)
  repeat (refine Sf.lit (fun xs => ?_); simp only [Sf.fill, List.foldl_cons, List.foldl_nil]; quiet_step (fail); refine wpQuiet_nil ?_)
  refine Sf.call (fun xs x3 hb hc => ⟨by rfl, fun K hK => ?_⟩)
  have B3 := Lib.hid (BW.out.trans (hb.mono BW.out.size))
  clear hb hc BW
  simp only [Sf.fill, List.foldl_cons, List.foldl_nil]
  go_simp
  refine (few_any _ p _ l (R0.out.below (BD.out.trans (B3.out.mono BD.out.size)))).mono ?_
  rintro e4x x4 ⟨v4, rfl, r4, b4⟩
  have B4 := Lib.hid (B3.out.trans (b4.mono B3.out.size))
  have R4 := Lib.hid r4
  refine hK _ _ (Sd.Cl.of B4.out) b4.size (fun _ => b4) ?_
  clear hK K b4 r4 B3
  refine Sf.call (fun xs x5 hb hc => ⟨by rfl, fun K hK => ?_⟩)
  have B5 := Lib.hid (B4.out.trans (hb.mono B4.out.size))
  have R5 := Lib.hid (R4.out.below hb)
  clear hb hc B4 R4
  simp only [Sf.fill, List.foldl_cons, List.foldl_nil]
  go_simp
  refine (D2.out _ _ R5.out).mono ?_
  rintro e6x x6 ⟨v6, rfl, o6, b6⟩
  obtain ⟨a6x, n6x, c6x, rfl⟩ : ∃ a n c, v6 = .slice a n c := by obtain ⟨a, c, e, _⟩ := o6.slice; exact ⟨_, _, _, e⟩
  have B6 := Lib.hid (B5.out.trans (b6.mono B5.out.size))
  have O6 := Lib.hid o6
  refine hK _ _ (Sd.Cl.of B6.out) b6.size (fun _ => b6) ?_
  clear hK K b6 o6 R5
  repeat (refine Sf.lit (fun xs => ?_); simp only [Sf.fill, List.foldl_cons, List.foldl_nil]; quiet_step (fail); refine wpQuiet_nil ?_)
  have NR : Hid (∀ g, (g < x5.heap.size ∨ x6.heap.size ≤ g) → Value.ownBlock (.slice a6x n6x c6x) ≠ some g) := fun g hg => O6.out.range hg
  refine Sf.meet (fun h7 x7 hb hc row n7 hH hL => ?_)
  have B7 := Lib.hid (B6.out.trans (hb.mono B6.out.size))
  have N7 := Lib.hid (NR.out h7 (hH _ (List.mem_cons_self ..)))
  have O7 := Lib.hid (O6.out.keep hb)
  have R7 : Hid (x7.heap[h7]? = some (.cells zFile 24 (0, 0))) := row
  clear hb hc row hH hL B6 O6
  refine Sf.meet (fun h8 x8 hb hc row n8 hH hL => ?_)
  have B8 := Lib.hid (B7.out.trans (hb.mono B7.out.size))
  have N8 := Lib.hid (NR.out h8 (hH _ (List.mem_cons_self ..)))
  have O8 := Lib.hid (O7.out.keep hb)
  have R8 : Hid (x8.heap[h8]? = some (.cells zRec 26 (0, 0))) := row
  have R7' := Lib.hid ((hb.block _ (lt_of_block R7.out)).trans R7.out)
  have E78 : h8 ≠ h7 := fun e => hL (by rw [e]; exact List.mem_cons_self ..)
  clear hb hc row hH hL B7 O7 R7 NR
  refine Sf.call (fun xs x9 hb hc => ⟨by rfl, fun K hK => ?_⟩)
  have B9 := Lib.hid (B8.out.trans (hb.mono B8.out.size))
  have O9 := Lib.hid (O8.out.keep hb)
  have R8' := Lib.hid ((hb.block _ (lt_of_block R8.out)).trans R8.out)
  have R7'' := Lib.hid ((hb.block _ (lt_of_block R7'.out)).trans R7'.out)
  have c0 : x9.cell? ⟨h7, 0, none⟩ = some (.int .i64 0) := row_cell R7''.out 0
  have c1 : x9.cell? ⟨h7, 1, none⟩ = some (.slice none 0 0) := row_cell R7''.out 1
  have f0 := row_frozen R7''.out 0
  have f1 := row_frozen R7''.out 1
  clear hb hc B8 O8 R8 R7'
  simp only [Sf.fill, List.foldl_nil]
  go_simp
  have RI : Hid (((x9.setCell ⟨h7, 0, none⟩ (.int .i64 q)).setCell ⟨h7, 1, none⟩ (.slice a6x n6x c6x)).heap[h7]? = some (.cells #[.int .i64 q, .slice a6x n6x c6x] 24 (0, 0))) := Rw.heap_setCell_same (Rw.heap_setCell_same R7''.out _) _
  have RJ : Hid (((x9.setCell ⟨h7, 0, none⟩ (.int .i64 q)).setCell ⟨h7, 1, none⟩ (.slice a6x n6x c6x)).heap[h8]? = some (.cells zRec 26 (0, 0))) := (Below.heap_setCell _ _ _ _ E78).trans ((Below.heap_setCell _ _ _ _ E78).trans R8'.out)
  have BG := Lib.hid ((B9.out.setCell (p := ⟨h7, 0, none⟩) n7 (.int .i64 q)).setCell (p := ⟨h7, 1, none⟩) n7 (.slice a6x n6x c6x))
  have OG := Lib.hid ((O9.out.off (p := ⟨h7, 0, none⟩) N7.out (.int .i64 q)).off (p := ⟨h7, 1, none⟩) N7.out (.slice a6x n6x c6x))
  refine hK _ _ (Sd.Cl.of BG.out) (by simp) (fun h => absurd rfl h) ?_
  clear hK K c0 c1 f0 f1 B9 O9 R8' R7''
  generalize (x9.setCell ⟨h7, 0, none⟩ (.int .i64 q)).setCell ⟨h7, 1, none⟩ (.slice a6x n6x c6x) = xA at *
  refine Sf.call (fun xs xB hb hc => ⟨by rfl, fun K hK => ?_⟩)
  have B9 := Lib.hid (BG.out.trans (hb.mono BG.out.size))
  have O9 := Lib.hid (OG.out.keep hb)
  have RA' := Lib.hid ((hb.block _ (lt_of_block RI.out)).trans RI.out)
  have RB' := Lib.hid ((hb.block _ (lt_of_block RJ.out)).trans RJ.out)
  have c0 : xB.cell? ⟨h8, 0, none⟩ = some (.int .u8 0) := row_cell RB'.out 0
  have c1 : xB.cell? ⟨h8, 1, none⟩ = some (.int .u8 0) := row_cell RB'.out 1
  have c2 : xB.cell? ⟨h8, 2, none⟩ = some (.int .u8 0) := row_cell RB'.out 2
  have c3 : xB.cell? ⟨h8, 3, none⟩ = some (.int .u8 0) := row_cell RB'.out 3
  have f0 := row_frozen RB'.out 0
  have f1 := row_frozen RB'.out 1
  have f2 := row_frozen RB'.out 2
  have f3 := row_frozen RB'.out 3
  clear hb hc BG OG RI RJ
  simp only [Sf.fill, List.foldl_nil]
  go_simp
  have hw : ∀ (w' : World), w' = (((xB.setCell ⟨h8, 0, none⟩ (.int .u8 y.1)).setCell ⟨h8, 1, none⟩ (.int .u8 y.2.1)).setCell ⟨h8, 2, none⟩ (.int .u8 y.2.2.1)).setCell ⟨h8, 3, none⟩ (.int .u8 y.2.2.2) →
      Below wD.heap.size wD w' ∧ Ow K4 w' x5.heap.size 26 (.slice a6x n6x c6x) m ∧ w'.heap[h7]? = some (.cells #[.int .i64 q, .slice a6x n6x c6x] 24 (0, 0)) ∧ w'.heap[h8]? = some (.cells #[.int .u8 y.1, .int .u8 y.2.1, .int .u8 y.2.2.1, .int .u8 y.2.2.2] 26 (0, 0)) ∧ xB.heap.size ≤ w'.heap.size := by
    rintro w' rfl
    refine ⟨(((B9.out.setCell (p := ⟨h8, 0, none⟩) n8 _).setCell (p := ⟨h8, 1, none⟩) n8 _).setCell (p := ⟨h8, 2, none⟩) n8 _).setCell (p := ⟨h8, 3, none⟩) n8 _, (((O9.out.off (p := ⟨h8, 0, none⟩) N8.out _).off (p := ⟨h8, 1, none⟩) N8.out _).off (p := ⟨h8, 2, none⟩) N8.out _).off (p := ⟨h8, 3, none⟩) N8.out _, ?_, Rw.heap_setCell_same (Rw.heap_setCell_same (Rw.heap_setCell_same (Rw.heap_setCell_same RB'.out _) _) _) _, by simp⟩
    exact (Below.heap_setCell _ _ _ _ E78.symm).trans ((Below.heap_setCell _ _ _ _ E78.symm).trans ((Below.heap_setCell _ _ _ _ E78.symm).trans ((Below.heap_setCell _ _ _ _ E78.symm).trans RA'.out)))
  obtain ⟨h1, h2, h3, h4, h5⟩ := hw _ rfl
  have BF := Lib.hid h1
  have OF := Lib.hid h2
  have RG := Lib.hid h3
  have RH := Lib.hid h4
  refine hK _ _ (Sd.Cl.of BF.out) h5 (fun h => absurd rfl h) ?_
  clear hK K hw h1 h2 h3 h4 h5 c0 c1 c2 c3 f0 f1 f2 f3 B9 O9 RA' RB'
  generalize (((xB.setCell ⟨h8, 0, none⟩ (.int .u8 y.1)).setCell ⟨h8, 1, none⟩ (.int .u8 y.2.1)).setCell ⟨h8, 2, none⟩ (.int .u8 y.2.2.1)).setCell ⟨h8, 3, none⟩ (.int .u8 y.2.2.2) = xC at *
  repeat (refine Sf.lit (fun xs => ?_); simp only [Sf.fill, List.foldl_nil]; quiet_step (fail); refine wpQuiet_nil ?_)
  refine Sf.done (fun xD hb hc => ?_)
  have BE := Lib.hid (BF.out.trans (hb.mono BF.out.size))
  have OE := Lib.hid (OF.out.keep hb)
  have RG' := Lib.hid ((hb.block _ (lt_of_block RG.out)).trans RG.out)
  have RH' := Lib.hid ((hb.block _ (lt_of_block RH.out)).trans RH.out)
  clear hb hc BF OF RG RH s0 s1 t0 t1 t2 t3 k0 k1 j0 j1 j2 j3
  go_wp2_with fail
  have BX := Lib.hid (BD.out.trans (BE.out.mono BD.out.size))
  have P0 := Sd.cell_by ((BX.out.cell (World.block_lt_of_cell? _ _ KA.out.1.1)).trans KA.out.1.1)
  have P1 := Sd.cell_by ((BX.out.cell (World.block_lt_of_cell? _ _ KA.out.1.2)).trans KA.out.1.2)
  have R7 := (BE.out.block _ (lt_of_block RC'.out)).trans RC'.out
  have R8 := (BE.out.block _ (lt_of_block RD'.out)).trans RD'.out
  have G0 := Sd.cell_by (show xD.cell? ⟨g7, 0, none⟩ = some (.int .i64 q) from row_cell R7 0)
  have G1 := Sd.cell_by (show xD.cell? ⟨g7, 1, none⟩ = some (.slice a6 n6 c6) from row_cell R7 1)
  have G2 := Sd.cell_by (show xD.cell? ⟨h7, 0, none⟩ = some (.int .i64 q) from row_cell RG'.out 0)
  have G3 := Sd.cell_by (show xD.cell? ⟨h7, 1, none⟩ = some (.slice a6x n6x c6x) from row_cell RG'.out 1)
  have Y0 := Sd.cell_by (show xD.cell? ⟨g8, 0, none⟩ = some (.int .u8 y.1) from row_cell R8 0)
  have Y1 := Sd.cell_by (show xD.cell? ⟨g8, 1, none⟩ = some (.int .u8 y.2.1) from row_cell R8 1)
  have Y2 := Sd.cell_by (show xD.cell? ⟨g8, 2, none⟩ = some (.int .u8 y.2.2.1) from row_cell R8 2)
  have Y3 := Sd.cell_by (show xD.cell? ⟨g8, 3, none⟩ = some (.int .u8 y.2.2.2) from row_cell R8 3)
  have Z0 := Sd.cell_by (show xD.cell? ⟨h8, 0, none⟩ = some (.int .u8 y.1) from row_cell RH'.out 0)
  have Z1 := Sd.cell_by (show xD.cell? ⟨h8, 1, none⟩ = some (.int .u8 y.2.1) from row_cell RH'.out 1)
  have Z2 := Sd.cell_by (show xD.cell? ⟨h8, 2, none⟩ = some (.int .u8 y.2.2.1) from row_cell RH'.out 2)
  have Z3 := Sd.cell_by (show xD.cell? ⟨h8, 3, none⟩ = some (.int .u8 y.2.2.2) from row_cell RH'.out 3)
  have es := eq_rec y y
  rw [decide_eq_true rfl] at es
  have RX := Lib.hid (R0.out.below BX.out)
  have OX := Lib.hid (OD.out.keep BE.out)
  clear KA R7 R8 RC' RD' RG' RH' R0 OD
  refine Sd.start [(true, 0), (false, 1), (false, 2), (false, 5), (true, 3), (true, 4), (true, 6), (true, 7), (false, 8), (false, 9), (false, 10), (false, 11), (false, 12), (true, 13), (false, 14), (false, 15), (false, 16), (false, 17), (false, 18), (false, 19), (false, 20), (false, 21), (false, 22), (false, 23), (false, 24), (false, 25)] (by kernel_rfl) (by kernel_rfl) (by kernel_rfl) ?_
  dsimp only [Sd.picks, List.getElem?_cons_succ, List.getElem?_cons_zero]
  refine Sd.call (by rfl) (fun K hK => ?_)
  go_simp
  refine (awake_any _).mono ?_
  rintro e1 w1 ⟨rfl, b1⟩
  have C1 := Lib.hid (Below.trans ((Below.refl xD.heap.size xD).drew) b1)
  refine hK _ _ (Sd.Cl.of C1.out) ?_
  clear hK K b1
  repeat (refine Sd.lit ?_; quiet_step (fail); refine wpQuiet_nil ?_)
  refine Sd.call (by rfl) (fun K hK => ?_)
  go_simp
  refine (few_any _ p _ l (RX.out.below C1.out)).mono ?_
  rintro e2 w2 ⟨v2, rfl, r2, b2⟩
  have C2 := Lib.hid (C1.out.trans (b2.mono C1.out.size))
  have F2 := Lib.hid r2
  refine hK _ _ (Sd.Cl.of C2.out) ?_
  clear hK K b2 r2
  refine Sd.call (by rfl) (fun K hK => ?_)
  go_simp
  refine (good_any _ p _ _ F2.out).mono ?_
  rintro e3 w3 ⟨rfl, b3⟩
  have C3 := Lib.hid (C2.out.trans (b3.mono C2.out.size))
  refine hK _ _ (Sd.Cl.of C3.out) ?_
  clear hK K b3 F2
  refine Sd.call (by rfl) (fun K hK => ?_)
  go_simp
  refine (few_any _ p _ l (RX.out.below C3.out)).mono ?_
  rintro e4 w4 ⟨v4', rfl, r4, b4⟩
  have C4 := Lib.hid (C3.out.trans (b4.mono C3.out.size))
  have F4 := Lib.hid r4
  refine hK _ _ (Sd.Cl.of C4.out) ?_
  clear hK K b4 r4
  refine Sd.call (by rfl) (fun K hK => ?_)
  go_simp
  refine (rgood_any _ p _ _ F4.out).mono ?_
  rintro e5 w5 ⟨rfl, b5⟩
  have C5 := Lib.hid (C4.out.trans (b5.mono C4.out.size))
  refine hK _ _ (Sd.Cl.of C5.out) ?_
  clear hK K b5 F4
  generalize goodFB p (l.take 260) = gb
  repeat (refine Sd.lit ?_; quiet_step (fail); refine wpQuiet_nil ?_)
  refine Sd.call (by rfl) (fun K hK => ?_)
  go_simp
  refine (at_bool (show sameF q m q m = true by simp [sameF]) (rsame_any _ q q _ _ m m (OX.out.keep C5.out).rd (OE.out.keep C5.out).rd)).mono ?_
  rintro e6 w6 ⟨rfl, b6⟩
  have C6 := Lib.hid (C5.out.trans (b6.mono C5.out.size))
  refine hK _ _ (Sd.Cl.of C6.out) ?_
  clear hK K b6
  repeat (refine Sd.lit ?_; quiet_step (fail); refine wpQuiet_nil ?_)
  refine Sd.done ?_
  go_wp2
  go_ret
  have BY := B0.out.trans (BX.out.mono B0.out.size)
  exact ⟨ret_bool (by cases gb <;> simp), BY.trans (C6.out.mono BY.size)⟩

end Go.Proofs.Ythendmibanghmaa.Fl
