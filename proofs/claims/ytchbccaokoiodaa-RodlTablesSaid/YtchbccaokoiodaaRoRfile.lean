/- The document's File. -/
import Derived.Test.YtchbccaokoiodaaRoFile
import Derived.Test.YtchbccaokoiodaaRoRput
namespace Go.Proofs.Ytchbccaokoiodaa.Ro
open Go.RowKit
open Go.Proofs.Ytchbccaokoiodaa.Rw (Rd Ow At)
open Go.Proofs.Ytchbccaokoiodaa.Fl (R4 z4 rec4 K4 okR hdr rat file ret_bool at_bool at4 row_cell row_frozen sto2_row sto2_below sto2_off results_new rhdr_any infoR)

/-- What holds at the head of the document's loop over the entries. -/
structure GRel (w : World) (m : List R4) (gF : Nat) (v : Value) (wr : World) : Prop where
  row : wr.heap[gF]? = some (.cells #[.int .i64 3, v] 40 (0, 0))
  res : wr.heap[w.heap.size]? = some (.cells #[.int .i64 0, .slice none 0 0] 40 (0, 0))
  own : Ow K4 wr (w.heap.size + 1) 25 v m
  bel : Below w.heap.size w wr
  lt : w.heap.size < gF

set_option maxHeartbeats 2000000 in
theorem rfile_any (w : World) (v : Value) (l : List E5) (R : Rd K5 w v l) : Calls Try.prog 18 #[v] w (FilePost w l) := by
  have B0 := Lib.hid ((Below.refl w.heap.size w).alloc (Nat.le_refl _) (.cells #[.int .i64 0, .slice none 0 0] 40))
  have R0 := Lib.hid (R.below B0.out)
  by_cases hm : mayP l
  · have GA := Lib.hid (at_bool (show mayB l = true from decide_eq_true hm) (rmay_any _ v l R0.out))
    have HE := Lib.hid (fun u w' => file_yes (w := w) hm u w')
    have hl := may_len hm
    clear hm R0
    obtain ⟨a, cap0, rfl, _, hm, hA⟩ := R
    have HA := Lib.hid hA
    unfold maxLen at hm
    clear hA
    have HF : Hid (fileL l = hdr 3 ((l.length : Int) + 1) :: (l.map putR ++ [endR])) := rfl
    have PS := Lib.hid (fun h k => own_next (k := k) (l := l) h)
    have PE : Hid (∀ h : R4, (h :: (l.take l.length).map putR) ++ [endR] = h :: (l.map putR ++ [endR])) := Lib.hid (fun h => by rw [List.take_length]; rfl)
    have PL : Hid (∀ (h : R4) k, k ≤ l.length → (h :: (l.take k).map putR).length = k + 1) := Lib.hid (fun h k hk => by simp [List.length_take]; omega)
    have HH := Lib.hid (fun w => rhdr_any w 3 ((l.length : Int) + 1) (by omega) (by omega) (by omega) (by omega))
    unfold rec4 at HH
    generalize hdr 3 ((l.length : Int) + 1) = h at *
    generalize hn : l.length = n at *
    have HN := Lib.hid hn
    clear hn
    have W0 : IntKind.i64.wrap ((n : Int) + 1) = (n : Int) + 1 := IntWalk.i64_in _ (by omega)
    go_enter Try.func18, Try.ntmps18
    go_wp2_with fail
    refine GA.out.mono ?_
    rintro e w0 ⟨rfl, b1⟩
    have z0 : w.heap.size + 1 ≤ w0.heap.size := by have := b1.size; simp at this; omega
    have B1 := Lib.hid (B0.out.trans (b1.mono B0.out.size))
    have S1 : Hid (w0.heap[w.heap.size]? = some (.cells #[.int .i64 0, .slice none 0 0] 40 (0, 0))) := Lib.hid ((b1.block _ (by simp)).trans (heap_alloc_new w _))
    clear b1 GA B0
    go_wp2_with fail
    refine (HH.out _).mono ?_
    rintro e w1 ⟨rfl, b1⟩
    have z1 : w.heap.size < w1.heap.size := by have := b1.size; omega
    have B2 := Lib.hid (B1.out.trans (b1.mono B1.out.size))
    have r0 := (b1.block _ (by omega)).trans S1.out
    have hz : (w1.alloc (.cells #[.int .u8 h.1, .int .u8 h.2.1, .int .u8 h.2.2.1, .int .u8 h.2.2.2] 25)).heap.size = w1.heap.size + 1 := by simp
    have N0 : Hid (GRel w [h] (w1.heap.size + 1) (.slice (some ⟨w1.heap.size, 0, none⟩) 1 1) ((w1.alloc (.cells #[.int .u8 h.1, .int .u8 h.2.1, .int .u8 h.2.2.1, .int .u8 h.2.2.2] 25)).alloc (.cells #[.int .i64 3, .slice (some ⟨w1.heap.size, 0, none⟩) 1 1] 40))) := by
      refine Lib.hid ⟨?_, ?_, (Rw.Ow.lit (K := K4) w1 (w.heap.size + 1) 25 [h] (by omega) (by unfold maxLen; simp)).alloc _, (B2.out.alloc (by omega) _).alloc (by rw [hz]; omega) _, by omega⟩
      · have := heap_alloc_new (w1.alloc (.cells #[.int .u8 h.1, .int .u8 h.2.1, .int .u8 h.2.2.1, .int .u8 h.2.2.2] 25)) (.cells #[.int .i64 3, .slice (some ⟨w1.heap.size, 0, none⟩) 1 1] 40)
        rw [hz] at this
        exact this
      · exact (Below.heap_alloc _ _ _ (by rw [hz]; omega)).trans ((Below.heap_alloc _ _ _ z1).trans r0)
    clear b1 r0 HH hz S1 B1
    go_wp2
    generalize (w1.alloc (.cells #[.int .u8 h.1, .int .u8 h.2.1, .int .u8 h.2.2.1, .int .u8 h.2.2.2] 25)).alloc (.cells #[.int .i64 3, .slice (some ⟨w1.heap.size, 0, none⟩) 1 1] 40) = W at *
    generalize w1.heap.size + 1 = g at *
    generalize Value.slice (some ⟨w1.heap.size, 0, none⟩) 1 1 = v0 at *
    go_loopw [5] (fun i wr => ∃ (k : Nat) (v : Value), k ≤ n ∧ i = .int .i64 k ∧ Hid (GRel w (h :: (l.take k).map putR) g v wr)) (fun i _ => n - (intOf i).toNat)
    case atStart => exact ⟨0, v0, Nat.zero_le _, rfl, N0⟩
    case round =>
      obtain ⟨k, v, hk, rfl, RR⟩ := hrel
      obtain ⟨av, cv, ev, _, _⟩ := RR.out.own.slice
      rw [PL.out h k hk] at ev
      generalize k + 1 = L at ev
      subst ev
      have glt := RR.out.lt
      by_cases hlt : k < n
      · obtain ⟨b, off, rfl, A⟩ := HA.out (by omega)
        obtain ⟨x0, x1, x2, x3, x4⟩ := at5 (A.below RR.out.bel) k (by rw [HN.out]; exact hlt)
        rw [show l.getD k z5 = eat l k from rfl] at x0 x1 x2 x3 x4
        have PT := Lib.hid (fun w => rput_any w (eat l k))
        have PK := Lib.hid (PS.out h k hlt)
        have PLK := Lib.hid (PL.out h k hk)
        have AA := Lib.hid A
        clear A
        unfold ent rec4 at PT
        generalize putR (eat l k) = q at *
        generalize putN (eat l k) = qn at *
        generalize eat l k = x at *
        go_wp2_with fail
        refine (PT.out _).mono ?_
        rintro e w2 ⟨rfl, b2⟩
        have G2 : Hid (GRel w (h :: (l.take k).map putR) g (.slice av L cv) w2) := Lib.hid ⟨(b2.block _ (lt_of_block RR.out.row)).trans RR.out.row, (b2.block _ (lt_of_block RR.out.res)).trans RR.out.res, RR.out.own.keep b2, RR.out.bel.trans (b2.mono RR.out.bel.size), glt⟩
        clear b2 RR x0 x1 x2 x3 x4 PT
        generalize h :: (l.take k).map putR = M at *
        have gs := lt_of_block G2.out.row
        have c1 : w2.cell? ⟨g, 1, none⟩ = some (.slice av L cv) := row_cell G2.out.row 1
        have zB := G2.out.bel.size
        go_wp2_with (at_builtin; refine Rw.push_far Try.underlying38 infoR rfl (by omega) rfl _ _ rfl (w.heap.size + 1) _ _ rfl ((G2.out.own.alloc _).alloc _) _ q rfl ?d1 ?d2 ?d3 ?_)
        case d1 =>
          intro j u hu
          match j, hu with
          | 0, hu => simp [K4] at hu; subst hu; go_simp
          | 1, hu => simp [K4] at hu; subst hu; go_simp
          | 2, hu => simp [K4] at hu; subst hu; go_simp
          | 3, hu => simp [K4] at hu; subst hu; go_simp
          | j + 4, hu => simp [K4] at hu
        case d2 => rw [PLK.out]; omega
        case d3 => simp; omega
        intro v' w3 o3 b3 f3
        have hz2 : ∀ o, (w2.alloc o).heap.size = w2.heap.size + 1 := fun o => by simp
        have rr := f3 g _ _ ((Below.heap_alloc _ _ g (by rw [hz2]; omega)).trans ((Below.heap_alloc w2 _ g gs).trans G2.out.row)) (by decide)
        have rs := f3 w.heap.size _ _ ((Below.heap_alloc _ _ w.heap.size (by rw [hz2]; omega)).trans ((Below.heap_alloc w2 _ w.heap.size (lt_of_block G2.out.res)).trans G2.out.res)) (by decide)
        have d1 : w3.cell? ⟨g, 1, none⟩ = some (.slice av L cv) := row_cell rr 1
        have e1 := row_frozen rr 1
        have N3 : Hid (GRel w (h :: (l.take (k + 1)).map putR) g v' (w3.setCell ⟨g, 1, none⟩ v')) := by
          refine Lib.hid ⟨Rw.heap_setCell_same rr _, (Below.heap_setCell w3 ⟨g, 1, none⟩ v' w.heap.size (show w.heap.size ≠ g by omega)).trans rs, ?_, ?_, glt⟩
          · rw [← PK.out]
            exact o3.far (p := ⟨g, 1, none⟩) rr (by decide) _
          · exact ((((G2.out.bel.alloc zB _).alloc (by rw [hz2]; omega) _).trans (b3.mono (by omega))).setCell (by simp; omega) _)
        obtain ⟨av', cv', L', rfl⟩ : ∃ a c L, v' = .slice a L c := by obtain ⟨a, c, e, _, _⟩ := o3.slice; exact ⟨a, c, _, e⟩
        clear rr rs o3 b3 f3 hz2 G2
        go_wp2
        go_roundw
        case rel => exact ⟨k + 1, _, by omega, by go_num, N3⟩
        case measure => simp [intOf]; omega
      · obtain rfl : k = n := by omega
        have PLK := Lib.hid (PL.out h k hk)
        have PEK := Lib.hid (PE.out h)
        clear PE PL PS
        generalize h :: (l.take k).map putR = M at *
        have gs := lt_of_block RR.out.row
        have c1 : wr.cell? ⟨g, 1, none⟩ = some (.slice av L cv) := row_cell RR.out.row 1
        have zB := RR.out.bel.size
        go_wp2_with (at_builtin; refine Rw.push_far Try.underlying38 infoR rfl (by omega) rfl _ _ rfl (w.heap.size + 1) _ _ rfl (RR.out.own.alloc _) _ endR rfl ?d1 ?d2 ?d3 ?_)
        case d1 =>
          intro j u hu
          match j, hu with
          | 0, hu => simp [K4, endR] at hu; subst hu; go_simp
          | 1, hu => simp [K4, endR] at hu; subst hu; go_simp
          | 2, hu => simp [K4, endR] at hu; subst hu; go_simp
          | 3, hu => simp [K4, endR] at hu; subst hu; go_simp
          | j + 4, hu => simp [K4] at hu
        case d2 => rw [PLK.out]; omega
        case d3 => simp; omega
        intro v' w3 o3 b3 f3
        have rr := f3 g _ _ ((Below.heap_alloc wr _ g gs).trans RR.out.row) (by decide)
        have rs := f3 w.heap.size _ _ ((Below.heap_alloc wr _ w.heap.size (lt_of_block RR.out.res)).trans RR.out.res) (by decide)
        have d1 : w3.cell? ⟨g, 1, none⟩ = some (.slice av L cv) := row_cell rr 1
        have e1 := row_frozen rr 1
        rw [PEK.out, ← HF.out] at o3
        have o4 := o3.far (p := ⟨g, 1, none⟩) rr (by decide) v'
        have r4 := Rw.heap_setCell_same (j := 1) rr v'
        have s4 := (Below.heap_setCell w3 ⟨g, 1, none⟩ v' w.heap.size (by show w.heap.size ≠ g; omega)).trans rs
        have B4 : Hid (Below w.heap.size w (w3.setCell ⟨g, 1, none⟩ v')) := Lib.hid (((RR.out.bel.alloc zB _).trans (b3.mono (by omega))).setCell (by simp; omega) _)
        obtain ⟨av', cv', L', rfl⟩ : ∃ a c L, v' = .slice a L c := by obtain ⟨a, c, e, _, _⟩ := o3.slice; exact ⟨a, c, _, e⟩
        have hne : (Value.slice av' L' cv').ownBlock ≠ some w.heap.size := o4.range (.inl (by omega))
        have RR5 := Lib.hid (sto2_row s4 3 (.slice av' L' cv'))
        have O6 := Lib.hid (sto2_off (u := .slice av' L' cv') o4 hne 3)
        have B6 := Lib.hid (sto2_below (p := 3) (v := .slice av' L' cv') B4.out (Nat.le_refl _))
        have R4' := Lib.hid r4
        have S4 := Lib.hid s4
        have D := Lib.hid (And.intro d1 e1)
        clear rs o3 b3 f3 o4 r4 s4 RR B4 hne c1 rr d1 e1
        have d1 := D.out.1
        have e1 := D.out.2
        go_upto_region 10 with fail
        clear d1 e1 D
        generalize w3.setCell ⟨g, 1, none⟩ (.slice av' L' cv') = w4 at *
        have c0 : w4.cell? ⟨g, 0, none⟩ = some (.int .i64 3) := row_cell R4'.out 0
        have c1 : w4.cell? ⟨g, 1, none⟩ = some (.slice av' L' cv') := row_cell R4'.out 1
        have r0 : w4.cell? ⟨w.heap.size, 0, none⟩ = some (.int .i64 0) := row_cell S4.out 0
        have r1 : w4.cell? ⟨w.heap.size, 1, none⟩ = some (.slice none 0 0) := row_cell S4.out 1
        have s0 := row_frozen S4.out 0
        have s1 := row_frozen S4.out 1
        go_wp2
        (try simp only [Exit.inBlock, Exit.then])
        exact bodyPost_ret (v := .tuple #[file 3 _, .int .i64 0]) (results_new (p := 2) (r := 3) rfl _ _ w.heap.size 3 _ 0 rfl rfl RR5.out) rfl (HE.out _ _ O6.out.rd B6.out)
  · have GA := Lib.hid (at_bool (show mayB l = false from decide_eq_false hm) (rmay_any _ v l R0.out))
    have E := Lib.hid (file_no (w := w) hm)
    clear hm
    obtain ⟨a, cap, rfl, _, hm, _⟩ := R
    clear R0
    generalize l.length = n at *
    go_enter Try.func18, Try.ntmps18
    go_wp2_with fail
    refine GA.out.mono ?_
    rintro e w1 ⟨rfl, b1⟩
    have z1 : w.heap.size < w1.heap.size := by have := b1.size; simp at this; omega
    have B1 := Lib.hid (B0.out.trans (b1.mono B0.out.size))
    have r0 : w1.heap[w.heap.size]? = some (.cells #[.int .i64 0, .slice none 0 0] 40 (0, 0)) := (b1.block _ (by simp)).trans (heap_alloc_new w _)
    have c0 : w1.cell? ⟨w.heap.size, 0, none⟩ = some (.int .i64 0) := row_cell r0 0
    have c1 : w1.cell? ⟨w.heap.size, 1, none⟩ = some (.slice none 0 0) := row_cell r0 1
    have f0 := row_frozen r0 0
    have f1 := row_frozen r0 1
    have RR := Lib.hid (sto2_row r0 0 (.slice none 0 0))
    clear b1 B0 r0 GA
    go_wp2
    (try simp only [Exit.inBlock, Exit.then])
    exact bodyPost_ret (v := .tuple #[file 0 (.slice none 0 0), .int .i64 1]) (results_new (p := 2) (r := 3) rfl _ _ w.heap.size 0 _ 1 rfl rfl RR.out) rfl (E.out _ (sto2_below B1.out (Nat.le_refl _)))

end Go.Proofs.Ytchbccaokoiodaa.Ro
