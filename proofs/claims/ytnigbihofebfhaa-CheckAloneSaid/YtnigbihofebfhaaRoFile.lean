/- rodl.File: entries as a file. -/
import Derived.Test.YtnigbihofebfhaaRoMay
import Derived.Test.YtnigbihofebfhaaRoPut
import Derived.Test.YtnigbihofebfhaaFlNew
import Derived.Test.YtnigbihofebfhaaSc
import Derived.Deep.Cut
namespace Go.Proofs.Ytnigbihofebfhaa.Ro
open Go.RowKit
open Go.Proofs.Ytnigbihofebfhaa.Rw (Rd Ow At)
open Go.Proofs.Ytnigbihofebfhaa.Fl (R4 z4 rec4 K4 okR hdr rat file ret_bool at_bool at4 row_cell row_frozen newP newL NewOwn new_own sto4 sto4_own sto4_other sto4_below sto2 sto2_row sto2_below sto2_off results_new)
attribute [local irreducible] Sd.wpSd wpQuiet

def FilePost (w : World) (l : List E5) (e : Ending) (w' : World) : Prop := ∃ u, e = .returned (.tuple #[file (fP l) u, .int .i64 (fN l)]) ∧ Rd K4 w' u (fL l) ∧ Below w.heap.size w w'
theorem file_no {w : World} {l : List E5} (h : ¬ mayP l) (w' : World) (hb : Below w.heap.size w w') : FilePost w l (.returned (.tuple #[file 0 (.slice none 0 0), .int .i64 1])) w' :=
  ⟨_, by unfold fP fN; rw [if_neg h, if_neg h], by unfold fL; rw [if_neg h]; exact Rw.Rd.nil _, hb⟩
theorem file_yes {w : World} {l : List E5} (h : mayP l) (u : Value) (w' : World) (hr : Rd K4 w' u (fileL l)) (hb : Below w.heap.size w w') : FilePost w l (.returned (.tuple #[file 3 u, .int .i64 0])) w' :=
  ⟨u, by unfold fP fN; rw [if_pos h, if_pos h], by unfold fL; rw [if_pos h]; exact hr, hb⟩
/-- What holds at the head of the loop over the entries. -/
structure FRel (w : World) (h : R4) (l : List E5) (g gF N cap k : Nat) (wr : World) : Prop where
  row : wr.heap[gF]? = some (.cells #[.int .i64 3, .slice (some ⟨g, 0, none⟩) N cap] 48 (0, 0))
  res : wr.heap[w.heap.size]? = some (.cells #[.int .i64 0, .slice none 0 0] 48 (0, 0))
  own : Ow K4 wr (w.heap.size + 1) 54 (.slice (some ⟨g, 0, none⟩) N cap) (part h l k)
  bel : Below w.heap.size w wr
/-- The class of the worlds of a round. -/
def FC (g gF N cap gX : Nat) (x : E5) (W : World) : Prop := W.heap[gF]? = some (.cells #[.int .i64 3, .slice (some ⟨g, 0, none⟩) N cap] 48 (0, 0)) ∧ W.heap[gX]? = some (.cells (row5 x) 30 (0, 0))

set_option maxHeartbeats 2000000 in
theorem file_any (w : World) (v : Value) (l : List E5) (R : Rd K5 w v l) : Calls Try.prog 19 #[v] w (FilePost w l) := by
  have B0 := Lib.hid ((Below.refl w.heap.size w).alloc (Nat.le_refl _) (.cells #[.int .i64 0, .slice none 0 0] 48))
  have R0 := Lib.hid (R.below B0.out)
  by_cases hm : mayP l
  · have GA := Lib.hid (at_bool (show mayB l = true from decide_eq_true hm) (istable_any _ v l R0.out))
    have HE := Lib.hid (fun u w' => file_yes (w := w) hm u w')
    have hl := may_len hm
    clear hm R0
    obtain ⟨a, cap0, rfl, _, hm, hA⟩ := R
    have HA := Lib.hid hA
    unfold maxLen at hm
    clear hA
    have HF : Hid (fileL l = hdr 3 ((l.length : Int) + 1) :: (l.map putR ++ [endR])) := rfl
    have PS := Lib.hid (fun h k => part_set (k := k) h (l := l))
    have PE := Lib.hid (fun h => part_end h l)
    have PL := Lib.hid (fun h k => part_len h l k)
    have NL : Hid (newL 3 ((l.length : Int) + 1) = part (hdr 3 ((l.length : Int) + 1)) l 0) := Lib.hid (by rw [part_start]; rfl)
    have NO := Lib.hid (fun w => new_own w 3 ((l.length : Int) + 1) ⟨by omega, by omega, by omega, by omega⟩)
    unfold NewOwn at NO
    rw [NL.out] at NO
    clear NL
    generalize hdr 3 ((l.length : Int) + 1) = h at *
    generalize hn : l.length = n at *
    have HN := Lib.hid hn
    clear hn
    have W0 : IntKind.i64.wrap ((n : Int) + 1) = (n : Int) + 1 := IntWalk.i64_in _ (by omega)
    unfold file at NO
    go_enter Try.func19, Try.ntmps19
    go_wp2_with fail
    refine GA.out.mono ?_
    rintro e w1 ⟨rfl, b1⟩
    have z1 : w.heap.size + 1 ≤ w1.heap.size := by have := b1.size; simp at this; omega
    have B1 := Lib.hid (B0.out.trans (b1.mono B0.out.size))
    have r1 : w1.heap[w.heap.size]? = some (.cells #[.int .i64 0, .slice none 0 0] 48 (0, 0)) := (b1.block _ (by simp)).trans (heap_alloc_new w _)
    have S1 := Lib.hid r1
    clear b1 GA B0 r1
    go_wp2_with fail
    refine (NO.out _).mono ?_
    rintro e w2 ⟨u, rfl, o2, b2⟩
    obtain ⟨g, cap, rfl, hg1, hg2, hcc, hcm, _, _⟩ := o2.form (by rw [PL.out _ _ (Nat.zero_le _)]; omega)
    rw [PL.out _ _ (Nat.zero_le _)] at o2 hcc ⊢
    have hz : ∀ o, (w2.alloc o).heap.size = w2.heap.size + 1 := fun o => by simp
    have F0 : Hid (FRel w h l g w2.heap.size (n + 2) cap 0 (w2.alloc (.cells #[.int .i64 3, .slice (some ⟨g, 0, none⟩) (n + 2) cap] 48))) := Lib.hid
      ⟨heap_alloc_new w2 _, (Below.heap_alloc _ _ _ (by have := b2.size; omega)).trans ((b2.block _ (by omega)).trans S1.out), (o2.alloc _).low (by omega), (B1.out.trans (b2.mono (by omega))).alloc (by have := b2.size; omega) _⟩
    have hgF : w.heap.size < w2.heap.size := by have := b2.size; omega
    have hg0 : w.heap.size < g := by omega
    clear b2 o2 S1 B1 NO hz
    go_wp2
    generalize w2.alloc (.cells #[.int .i64 3, .slice (some ⟨g, 0, none⟩) (n + 2) cap] 48) = W at *
    generalize w2.heap.size = gF at *
    generalize hN2 : n + 2 = N at *
    have HN2 := Lib.hid hN2
    clear hN2
    go_loopw [21] (fun i wr => ∃ k : Nat, k ≤ n ∧ i = .int .i64 k ∧ Hid (FRel w h l g gF N cap k wr)) (fun i _ => n - (intOf i).toNat)
    case atStart => exact ⟨0, Nat.zero_le _, rfl, F0⟩
    case round =>
      obtain ⟨k, hk, rfl, RR⟩ := hrel
      by_cases hlt : k < n
      · obtain ⟨b, off, rfl, A⟩ := HA.out (by omega)
        obtain ⟨c0, c1, c2, c3, c4⟩ := at5 (A.below RR.out.bel) k (by rw [HN.out]; exact hlt)
        rw [show l.getD k z5 = eat l k from rfl] at c0 c1 c2 c3 c4
        have PT := Lib.hid (fun w => put_any w (eat l k))
        have PK := Lib.hid (PS.out h k hlt)
        have PLK := Lib.hid (PL.out h k hk)
        have AA := Lib.hid A
        clear A
        unfold ent rec4 at PT
        generalize putR (eat l k) = q at *
        generalize putN (eat l k) = qn at *
        generalize eat l k = x at *
        obtain ⟨K1, hK1⟩ : ∃ K1, K1 = k + 1 := ⟨_, rfl⟩
        have W1 : IntKind.i64.wrap (1 + (k : Int)) = (K1 : Int) := by rw [IntWalk.i64_in _ (by omega)]; omega
        have hkN : K1 < N := by have := HN2.out; omega
        have HK := Lib.hid hK1
        clear hK1
        go_upto_region 7 with fail
        have gx : gF < wr.heap.size := lt_of_block RR.out.row
        have zx : (wr.alloc (.cells (row5 x) 30)).heap.size = wr.heap.size + 1 := by simp
        have BX := Lib.hid ((Below.refl wr.heap.size wr).alloc (Nat.le_refl _) (.cells (row5 x) 30))
        have rowV := (BX.out.block _ gx).trans RR.out.row
        have resV := Lib.hid ((BX.out.block _ (by omega)).trans RR.out.res)
        have rowX := heap_alloc_new wr (.cells (row5 x) 30)
        have ownV := Lib.hid (RR.out.own.alloc (.cells (row5 x) 30))
        have belV := Lib.hid (RR.out.bel.trans (BX.out.mono RR.out.bel.size))
        clear BX RR c0 c1 c2 c3 c4
        unfold row5 at zx rowV resV rowX ownV belV
        generalize wr.alloc (.cells #[.int .i64 x.1, .int .i64 x.2.1, .int .i64 x.2.2.1, .int .i64 x.2.2.2.1, .int .i64 x.2.2.2.2] 30) = V at *
        have C0 : FC g gF N cap wr.heap.size x V.drew := ⟨rowV, rowX⟩
        have ne : Nonempty (Sc.In (FC g gF N cap wr.heap.size x)) := ⟨⟨_, C0⟩⟩
        have k1 := Sc.cell_in (C := FC g gF N cap wr.heap.size x) (a := ⟨gF, 1, none⟩) (v := .slice (some ⟨g, 0, none⟩) N cap) (fun W' h => row_cell h.1 1)
        have x0 := Sc.cell_in (C := FC g gF N cap wr.heap.size x) (a := ⟨wr.heap.size, 0, none⟩) (v := .int .i64 x.1) (fun W' h => row_cell h.2 0)
        have x1 := Sc.cell_in (C := FC g gF N cap wr.heap.size x) (a := ⟨wr.heap.size, 1, none⟩) (v := .int .i64 x.2.1) (fun W' h => row_cell h.2 1)
        have x2 := Sc.cell_in (C := FC g gF N cap wr.heap.size x) (a := ⟨wr.heap.size, 2, none⟩) (v := .int .i64 x.2.2.1) (fun W' h => row_cell h.2 2)
        have x3 := Sc.cell_in (C := FC g gF N cap wr.heap.size x) (a := ⟨wr.heap.size, 3, none⟩) (v := .int .i64 x.2.2.2.1) (fun W' h => row_cell h.2 3)
        have x4 := Sc.cell_in (C := FC g gF N cap wr.heap.size x) (a := ⟨wr.heap.size, 4, none⟩) (v := .int .i64 x.2.2.2.2) (fun W' h => row_cell h.2 4)
        refine Sc.start (FC g gF N cap wr.heap.size x) [(false, 0), (false, 1), (false, 2), (false, 3), (false, 4), (true, 5), (false, 6), (false, 7), (false, 8), (false, 9), (true, 10)] (by kernel_rfl) (by kernel_rfl) (by kernel_rfl) C0 ?_
        dsimp only [Sd.picks, List.getElem?_cons_succ, List.getElem?_cons_zero]
        iterate 5 (refine Sd.lit ?_; quiet_step (fail); refine wpQuiet_nil ?_)
        refine Sd.call (by rfl) (fun K hK => ?_)
        go_simp
        refine (PT.out _).mono ?_
        rintro e w4 ⟨rfl, b4⟩
        have b4' : Below V.heap.size V w4 := Below.trans ((Below.refl V.heap.size V).drew) b4
        have B4 := Lib.hid (belV.out.trans (b4'.mono belV.out.size))
        have row4 := (b4'.block _ (by omega)).trans rowV
        have rowX4 := (b4'.block _ (by omega)).trans rowX
        have r4 := (b4'.block _ (by omega)).trans resV.out
        have O4 := Lib.hid (ownV.out.keep b4')
        refine hK _ _ (Sc.Cl.of ⟨row4, rowX4⟩) ?_
        clear hK K b4 b4' belV ownV resV rowV rowX PT
        iterate 4 (refine Sd.lit ?_; quiet_step (fail); refine wpQuiet_nil ?_)
        refine Sd.call (by rfl) (fun K hK => ?_)
        obtain ⟨g', cap', eg, _, _, _, _, hfr, hat⟩ := O4.out.form (by rw [PLK.out]; omega)
        have eg' : g' = g := by
          injection eg with e1
          injection e1 with e1
          injection e1 with e1 _ _
          exact e1.symm
        subst eg'
        have hKL : K1 < (part h l k).length := by rw [PLK.out]; have := HN2.out; omega
        have eK : K1 = 1 + k := by rw [HK.out]; omega
        have O5 := Lib.hid (sto4_own (i := K1) O4.out (by rw [PLK.out]) hKL q)
        rw [show (part h l k).set K1 q = part h l (k + 1) by rw [eK]; exact PK.out] at O5
        clear eK
        obtain ⟨d0, d1, d2, d3⟩ := at4 hat K1 hKL
        rw [Nat.zero_add] at d0 d1 d2 d3
        have f0 := hfr (K1 * 4)
        have f1 := hfr (K1 * 4 + 1)
        have f2 := hfr (K1 * 4 + 2)
        have f3 := hfr (K1 * 4 + 3)
        have row5 := sto4_other (g := g') (o := K1 * 4) (r := q) row4 (by omega)
        have rowX5 := sto4_other (g := g') (o := K1 * 4) (r := q) rowX4 (by omega)
        have r5 := sto4_other (g := g') (o := K1 * 4) (r := q) r4 (by omega)
        have B5 := Lib.hid (sto4_below (o := K1 * 4) (r := q) B4.out (show w.heap.size ≤ g' by omega))
        have N5 : Hid (FRel w h l g' gF N cap (k + 1) (sto4 w4 g' (K1 * 4) q)) := Lib.hid ⟨row5, r5, O5.out, B5.out⟩
        clear hfr hat O4 B4 eg O5 B5
        go_simp
        refine hK _ _ (Sc.Cl.of ⟨row5, rowX5⟩) ?_
        clear hK K d0 d1 d2 d3 f0 f1 f2 f3 row4 r4 rowX4 k1 ne C0 x0 x1 x2 x3 x4
        refine Sd.done ?_
        show Exit.inBlock _ _ _ _ (sto4 w4 g' (K1 * 4) q)
        generalize sto4 w4 g' (K1 * 4) q = wS at *
        go_wp2
        go_roundw
        case rel => exact ⟨k + 1, by omega, by go_num, N5⟩
        case measure => simp [intOf]; omega
      · obtain rfl : k = n := by omega
        have PK := Lib.hid (PE.out h)
        have PLK := Lib.hid (PL.out h k (Nat.le_refl _))
        have e1 : putR endE = endR := by decide
        have e2 : putN endE = 0 := by decide
        have PT := Lib.hid (fun w => put_any w endE)
        have EE := Lib.hid (fun w => end_any w)
        rw [e1, e2] at PT
        clear e1 e2
        unfold ent at PT EE
        unfold rec4 at PT
        simp only [endE, endR] at PT EE
        obtain ⟨K1, hK1⟩ : ∃ K1, K1 = k + 1 := ⟨_, rfl⟩
        have W1 : IntKind.i64.wrap (1 + (k : Int)) = (K1 : Int) := by rw [IntWalk.i64_in _ (by omega)]; omega
        have hkN : K1 < N := by have := HN2.out; omega
        have HK := Lib.hid hK1
        clear hK1 PS PE PL
        go_upto_region 9 with fail
        have gx : gF < wr.heap.size := lt_of_block RR.out.row
        have rowV := RR.out.row
        have resV := Lib.hid RR.out.res
        have ownV := Lib.hid RR.out.own
        have belV := Lib.hid RR.out.bel
        clear RR
        have C0 : (fun W' : World => W'.heap[gF]? = some (.cells #[.int .i64 3, .slice (some ⟨g, 0, none⟩) N cap] 48 (0, 0))) wr.drew := rowV
        have ne : Nonempty (Sc.In (fun W' : World => W'.heap[gF]? = some (.cells #[.int .i64 3, .slice (some ⟨g, 0, none⟩) N cap] 48 (0, 0)))) := ⟨⟨_, C0⟩⟩
        have k1 := Sc.cell_in (C := fun W' : World => W'.heap[gF]? = some (.cells #[.int .i64 3, .slice (some ⟨g, 0, none⟩) N cap] 48 (0, 0))) (a := ⟨gF, 1, none⟩) (v := .slice (some ⟨g, 0, none⟩) N cap) (fun W' h => row_cell h 1)
        refine Sc.start (fun W' : World => W'.heap[gF]? = some (.cells #[.int .i64 3, .slice (some ⟨g, 0, none⟩) N cap] 48 (0, 0))) [(false, 0), (false, 1), (false, 2), (false, 3), (false, 4), (true, 5), (true, 6), (false, 7), (false, 8), (false, 9), (false, 10), (true, 11)] (by kernel_rfl) (by kernel_rfl) (by kernel_rfl) C0 ?_
        dsimp only [Sd.picks, List.getElem?_cons_succ, List.getElem?_cons_zero]
        iterate 5 (refine Sd.lit ?_; quiet_step (fail); refine wpQuiet_nil ?_)
        refine Sd.call (by rfl) (fun K hK => ?_)
        go_simp
        refine (EE.out _).mono ?_
        rintro e w3 ⟨rfl, b3⟩
        have b3' : Below wr.heap.size wr w3 := Below.trans ((Below.refl wr.heap.size wr).drew) b3
        have row3 := (b3'.block _ (by omega)).trans rowV
        refine hK _ _ (Sc.Cl.of row3) ?_
        clear hK K b3
        refine Sd.call (by rfl) (fun K hK => ?_)
        go_simp
        refine (PT.out _).mono ?_
        rintro e w4 ⟨rfl, b4⟩
        have b4' : Below wr.heap.size wr w4 := b3'.trans (b4.mono b3'.size)
        have B4 := Lib.hid (belV.out.trans (b4'.mono belV.out.size))
        have row4 := (b4'.block _ (by omega)).trans rowV
        have r4 := (b4'.block _ (by omega)).trans resV.out
        have O4 := Lib.hid (ownV.out.keep b4')
        refine hK _ _ (Sc.Cl.of row4) ?_
        clear hK K b4 b3' b4' belV ownV resV rowV row3 PT EE
        iterate 4 (refine Sd.lit ?_; quiet_step (fail); refine wpQuiet_nil ?_)
        refine Sd.call (by rfl) (fun K hK => ?_)
        obtain ⟨g', cap', eg, _, _, _, _, hfr, hat⟩ := O4.out.form (by rw [PLK.out]; omega)
        have eg' : g' = g := by
          injection eg with e1
          injection e1 with e1
          injection e1 with e1 _ _
          exact e1.symm
        subst eg'
        have hKL : K1 < (part h l k).length := by rw [PLK.out]; have := HN2.out; omega
        have eK : K1 = 1 + k := by rw [HK.out]; omega
        have O5 := Lib.hid (sto4_own (i := K1) O4.out (by rw [PLK.out]) hKL endR)
        rw [show (part h l k).set K1 endR = fileL l by rw [eK, HF.out]; exact PK.out] at O5
        clear eK
        obtain ⟨d0, d1, d2, d3⟩ := at4 hat K1 hKL
        rw [Nat.zero_add] at d0 d1 d2 d3
        have f0 := hfr (K1 * 4)
        have f1 := hfr (K1 * 4 + 1)
        have f2 := hfr (K1 * 4 + 2)
        have f3 := hfr (K1 * 4 + 3)
        have row5 := sto4_other (g := g') (o := K1 * 4) (r := endR) row4 (by omega)
        have r5 := sto4_other (g := g') (o := K1 * 4) (r := endR) r4 (by omega)
        have B5 := Lib.hid (sto4_below (o := K1 * 4) (r := endR) B4.out (show w.heap.size ≤ g' by omega))
        clear hfr hat O4 B4 eg
        go_simp
        refine hK _ _ (Sc.Cl.of row5) ?_
        clear hK K d0 d1 d2 d3 f0 f1 f2 f3 row4 r4 k1 ne C0
        refine Sd.done ?_
        have d0 : (sto4 w4 g' (K1 * 4) endR).cell? ⟨gF, 0, none⟩ = some (.int .i64 3) := row_cell row5 0
        have d1 : (sto4 w4 g' (K1 * 4) endR).cell? ⟨gF, 1, none⟩ = some (.slice (some ⟨g', 0, none⟩) N cap) := row_cell row5 1
        have e0 : (sto4 w4 g' (K1 * 4) endR).cell? ⟨w.heap.size, 0, none⟩ = some (.int .i64 0) := row_cell r5 0
        have e1 : (sto4 w4 g' (K1 * 4) endR).cell? ⟨w.heap.size, 1, none⟩ = some (.slice none 0 0) := row_cell r5 1
        have f0 := row_frozen r5 0
        have f1 := row_frozen r5 1
        have hne : (Value.slice (some ⟨g', 0, none⟩) N cap).ownBlock ≠ some w.heap.size := O5.out.range (.inl (by omega))
        have RR := Lib.hid (sto2_row r5 3 (.slice (some ⟨g', 0, none⟩) N cap))
        have O6 := Lib.hid (sto2_off (u := .slice (some ⟨g', 0, none⟩) N cap) O5.out hne 3)
        have B6 := Lib.hid (sto2_below (p := 3) (v := .slice (some ⟨g', 0, none⟩) N cap) B5.out (Nat.le_refl _))
        clear row5 r5 O5 B5 hne
        show Exit.then _ _ _ _ (sto4 w4 g' (K1 * 4) endR)
        generalize sto4 w4 g' (K1 * 4) endR = wS at *
        go_wp2
        (try simp only [Exit.inBlock, Exit.then])
        exact bodyPost_ret (v := .tuple #[file 3 _, .int .i64 0]) (results_new (p := 2) (r := 3) rfl _ _ w.heap.size 3 _ 0 rfl rfl RR.out) rfl (HE.out _ _ O6.out.rd B6.out)
  · have GA := Lib.hid (at_bool (show mayB l = false from decide_eq_false hm) (istable_any _ v l R0.out))
    have E := Lib.hid (file_no (w := w) hm)
    clear hm
    obtain ⟨a, cap, rfl, _, hm, _⟩ := R
    clear R0
    generalize l.length = n at *
    go_enter Try.func19, Try.ntmps19
    go_wp2_with fail
    refine GA.out.mono ?_
    rintro e w1 ⟨rfl, b1⟩
    have z1 : w.heap.size < w1.heap.size := by have := b1.size; simp at this; omega
    have B1 := Lib.hid (B0.out.trans (b1.mono B0.out.size))
    have r0 : w1.heap[w.heap.size]? = some (.cells #[.int .i64 0, .slice none 0 0] 48 (0, 0)) := (b1.block _ (by simp)).trans (heap_alloc_new w _)
    have c0 : w1.cell? ⟨w.heap.size, 0, none⟩ = some (.int .i64 0) := row_cell r0 0
    have c1 : w1.cell? ⟨w.heap.size, 1, none⟩ = some (.slice none 0 0) := row_cell r0 1
    have f0 := row_frozen r0 0
    have f1 := row_frozen r0 1
    have RR := Lib.hid (sto2_row r0 0 (.slice none 0 0))
    clear b1 B0 r0 GA
    go_wp2
    (try simp only [Exit.inBlock, Exit.then])
    exact bodyPost_ret (v := .tuple #[file 0 (.slice none 0 0), .int .i64 1]) (results_new (p := 2) (r := 3) rfl _ _ w.heap.size 0 _ 1 rfl rfl RR.out) rfl (E.out _ (sto2_below B1.out (Nat.le_refl _)))

end Go.Proofs.Ytnigbihofebfhaa.Ro
