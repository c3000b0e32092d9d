/- rose.File: a sequence as a file. -/
import Derived.Test.YtghdjdejdpknjaaReNext
import Derived.Test.YtghdjdejdpknjaaFlNew
import Derived.Deep.Cut
namespace Go.Proofs.Ytghdjdejdpknjaa.Re
open Go.RowKit
open Go.Proofs.Ytghdjdejdpknjaa.Rw (Rd Ow At)
open Go.Proofs.Ytghdjdejdpknjaa.Fl (R4 z4 rec4 K4 okR hdr rat file ret_bool at_bool at4 row_cell row_frozen newP newL NewOwn new_own sto4 sto4_own sto4_other sto4_below sto2 sto2_row sto2_below sto2_off results_new)

/-- What holds at the head of the loop over the numbers. -/
structure FRel (w : World) (h : R4) (l : List Int) (g gF N cap k : Nat) (wr : World) : Prop where
  row : wr.heap[gF]? = some (.cells #[.int .i64 3, .slice (some ⟨g, 0, none⟩) N cap] 25 (0, 0))
  res : wr.heap[w.heap.size]? = some (.cells #[.int .i64 0, .slice none 0 0] 25 (0, 0))
  own : Ow K4 wr (w.heap.size + 1) 47 (.slice (some ⟨g, 0, none⟩) N cap) (part h l k)
  bel : Below w.heap.size w wr

set_option maxHeartbeats 2000000 in
theorem file_any (w : World) (v : Value) (l : List Int) (R : Rd KI w v l) : Calls Try.prog 5 #[v] w (FilePost w l) := by
  have B0 := Lib.hid ((Below.refl w.heap.size w).alloc (Nat.le_refl _) (.cells #[.int .i64 0, .slice none 0 0] 25))
  have R0 := Lib.hid (R.below B0.out)
  by_cases hm : seqP l
  · have GA := Lib.hid (at_bool (show seqB l = true from decide_eq_true hm) (isseq_any _ v l R0.out))
    have HE := Lib.hid (fun u w' => file_yes (w := w) hm u w')
    have hl := hm.1.2
    have OK : Hid (∀ i, i < l.length → okI (iat l i)) := Lib.hid hm.2
    clear hm R0
    obtain ⟨a, cap0, rfl, _, hm, hA⟩ := R
    have HA := Lib.hid hA
    unfold maxLen at hm
    clear hA
    have HF : Hid (fileL l = hdr 3 (l.length : Int) :: l.map putI) := Lib.hid rfl
    have PS := Lib.hid (fun h k => part_set (k := k) h (l := l))
    have PE := Lib.hid (fun h => part_end h l)
    have PL := Lib.hid (fun h k => part_len h l k)
    have NL : Hid (newL 3 (l.length : Int) = part (hdr 3 (l.length : Int)) l 0) := Lib.hid (by rw [part_start]; rfl)
    have NO := Lib.hid (fun w => new_own w 3 (l.length : Int) ⟨by omega, by omega, by omega, by omega⟩)
    unfold NewOwn at NO
    rw [NL.out] at NO
    clear NL
    generalize hdr 3 (l.length : Int) = h at *
    generalize hn : l.length = n at *
    have HN := Lib.hid hn
    clear hn
    unfold file at NO
    go_enter Try.func5, Try.ntmps5
    go_wp2_with fail
    refine GA.out.mono ?_
    rintro e w1 ⟨rfl, b1⟩
    have z1 : w.heap.size + 1 ≤ w1.heap.size := by have := b1.size; simp at this; omega
    have B1 := Lib.hid (B0.out.trans (b1.mono B0.out.size))
    have r1 : w1.heap[w.heap.size]? = some (.cells #[.int .i64 0, .slice none 0 0] 25 (0, 0)) := (b1.block _ (by simp)).trans (heap_alloc_new w _)
    have S1 := Lib.hid r1
    clear b1 GA B0 r1
    go_wp2_with fail
    refine (NO.out _).mono ?_
    rintro e w2 ⟨u, rfl, o2, b2⟩
    obtain ⟨g, cap, rfl, hg1, hg2, hcc, hcm, _, _⟩ := o2.form (by rw [PL.out _ _ (Nat.zero_le _)]; omega)
    rw [PL.out _ _ (Nat.zero_le _)] at o2 hcc ⊢
    have hz : ∀ o, (w2.alloc o).heap.size = w2.heap.size + 1 := fun o => by simp
    have F0 : Hid (FRel w h l g w2.heap.size (n + 1) cap 0 (w2.alloc (.cells #[.int .i64 3, .slice (some ⟨g, 0, none⟩) (n + 1) cap] 25))) := Lib.hid
      ⟨heap_alloc_new w2 _, (Below.heap_alloc _ _ _ (by have := b2.size; omega)).trans ((b2.block _ (by omega)).trans S1.out), (o2.alloc _).low (by omega), (B1.out.trans (b2.mono (by omega))).alloc (by have := b2.size; omega) _⟩
    have hgF : w.heap.size < w2.heap.size := by have := b2.size; omega
    have hg0 : w.heap.size < g := by omega
    clear b2 o2 S1 B1 NO hz
    go_wp2
    generalize w2.alloc (.cells #[.int .i64 3, .slice (some ⟨g, 0, none⟩) (n + 1) cap] 25) = W at *
    generalize w2.heap.size = gF at *
    generalize hN2 : n + 1 = N at *
    have HN2 := Lib.hid hN2
    clear hN2
    go_loopw [20] (fun i wr => ∃ k : Nat, k ≤ n ∧ i = .int .i64 k ∧ Hid (FRel w h l g gF N cap k wr)) (fun i _ => n - (intOf i).toNat)
    case atStart => exact ⟨0, Nat.zero_le _, rfl, F0⟩
    case round =>
      obtain ⟨k, hk, rfl, RR⟩ := hrel
      by_cases hlt : k < n
      · obtain ⟨b, off, rfl, A⟩ := HA.out (by omega)
        have c0 := at1 (A.below RR.out.bel) k (by rw [HN.out]; exact hlt)
        have PK := Lib.hid (PS.out h k hlt)
        have PLK := Lib.hid (PL.out h k hk)
        have ok := OK.out k hlt
        have AA := Lib.hid A
        clear A
        unfold okI at ok
        generalize iat l k = x at *
        have W2 : IntKind.u8.wrap x = x := by rw [IntKind.wrap]; simp [IntKind.signed, IntKind.bits]; omega
        obtain ⟨K1, hK1⟩ : ∃ K1, K1 = k + 1 := ⟨_, rfl⟩
        have W1 : IntKind.i64.wrap (1 + (k : Int)) = (K1 : Int) := by rw [IntWalk.i64_in _ (by omega)]; omega
        have hkN : K1 < N := by have := HN2.out; omega
        obtain ⟨g', cap', eg, _, _, _, _, hfr, hat⟩ := RR.out.own.form (by rw [PLK.out]; omega)
        have eg' : g' = g := by
          injection eg with e1
          injection e1 with e1
          injection e1 with e1 _ _
          exact e1.symm
        subst eg'
        have hKL : K1 < (part h l k).length := by rw [PLK.out]; have := HN2.out; omega
        have eK : K1 = 1 + k := by omega
        have O5 := Lib.hid (sto4_own (i := K1) RR.out.own (by rw [PLK.out]) hKL (putI x))
        rw [show (part h l k).set K1 (putI x) = part h l (k + 1) by rw [eK]; exact PK.out] at O5
        clear eK
        have HK := Lib.hid hK1
        clear hK1
        obtain ⟨d0, d1, d2, d3⟩ := at4 hat K1 hKL
        rw [Nat.zero_add] at d0 d1 d2 d3
        have f0 := hfr (K1 * 4)
        have f1 := hfr (K1 * 4 + 1)
        have f2 := hfr (K1 * 4 + 2)
        have f3 := hfr (K1 * 4 + 3)
        have k1 : wr.cell? ⟨gF, 1, none⟩ = some (.slice (some ⟨g', 0, none⟩) N cap) := row_cell RR.out.row 1
        have hne : gF ≠ g' := fun e => by
          have := RR.out.own.apart RR.out.row (by decide)
          exact this (by simp [Value.ownBlock, e])
        have row5 := sto4_other (g := g') (o := K1 * 4) (r := putI x) RR.out.row hne
        have r5 := sto4_other (g := g') (o := K1 * 4) (r := putI x) RR.out.res (by omega)
        have B5 := Lib.hid (sto4_below (o := K1 * 4) (r := putI x) RR.out.bel (show w.heap.size ≤ g' by omega))
        have N5 : Hid (FRel w h l g' gF N cap (k + 1) (sto4 wr g' (K1 * 4) (putI x))) := Lib.hid ⟨row5, r5, O5.out, B5.out⟩
        clear hfr hat eg O5 B5 row5 r5 RR hne
        unfold sto4 putI at N5
        go_wp2
        go_roundw
        case rel => exact ⟨k + 1, by omega, by go_num, N5⟩
        case measure => simp [intOf]; omega
      · obtain rfl : k = n := by omega
        have PK := Lib.hid (PE.out h)
        have PLK := Lib.hid (PL.out h k (Nat.le_refl _))
        clear PS PE PL OK
        have O5 := Lib.hid (show Ow K4 wr (w.heap.size + 1) 47 (.slice (some ⟨g, 0, none⟩) N cap) (fileL l) by rw [HF.out, ← PK.out]; exact RR.out.own)
        have d0 : wr.cell? ⟨gF, 0, none⟩ = some (.int .i64 3) := row_cell RR.out.row 0
        have d1 : wr.cell? ⟨gF, 1, none⟩ = some (.slice (some ⟨g, 0, none⟩) N cap) := row_cell RR.out.row 1
        have e0 : wr.cell? ⟨w.heap.size, 0, none⟩ = some (.int .i64 0) := row_cell RR.out.res 0
        have e1 : wr.cell? ⟨w.heap.size, 1, none⟩ = some (.slice none 0 0) := row_cell RR.out.res 1
        have f0 := row_frozen RR.out.res 0
        have f1 := row_frozen RR.out.res 1
        have hne : (Value.slice (some ⟨g, 0, none⟩) N cap).ownBlock ≠ some w.heap.size := O5.out.range (.inl (by omega))
        have RV := Lib.hid (sto2_row RR.out.res 3 (.slice (some ⟨g, 0, none⟩) N cap))
        have O6 := Lib.hid (sto2_off (u := .slice (some ⟨g, 0, none⟩) N cap) O5.out hne 3)
        have B6 := Lib.hid (sto2_below (p := 3) (v := .slice (some ⟨g, 0, none⟩) N cap) RR.out.bel (Nat.le_refl _))
        clear RR O5 hne PK PLK
        go_wp2
        (try simp only [Exit.inBlock, Exit.then])
        exact bodyPost_ret (v := .tuple #[file 3 _, .int .i64 0]) (results_new (p := 2) (r := 3) rfl _ _ w.heap.size 3 _ 0 rfl rfl RV.out) rfl (HE.out _ _ O6.out.rd B6.out)
  · have GA := Lib.hid (at_bool (show seqB l = false from decide_eq_false hm) (isseq_any _ v l R0.out))
    have E := Lib.hid (file_no (w := w) hm)
    clear hm
    obtain ⟨a, cap, rfl, _, hm, _⟩ := R
    clear R0
    generalize l.length = n at *
    go_enter Try.func5, Try.ntmps5
    go_wp2_with fail
    refine GA.out.mono ?_
    rintro e w1 ⟨rfl, b1⟩
    have z1 : w.heap.size < w1.heap.size := by have := b1.size; simp at this; omega
    have B1 := Lib.hid (B0.out.trans (b1.mono B0.out.size))
    have r0 : w1.heap[w.heap.size]? = some (.cells #[.int .i64 0, .slice none 0 0] 25 (0, 0)) := (b1.block _ (by simp)).trans (heap_alloc_new w _)
    have c0 : w1.cell? ⟨w.heap.size, 0, none⟩ = some (.int .i64 0) := row_cell r0 0
    have c1 : w1.cell? ⟨w.heap.size, 1, none⟩ = some (.slice none 0 0) := row_cell r0 1
    have f0 := row_frozen r0 0
    have f1 := row_frozen r0 1
    have RR := Lib.hid (sto2_row r0 0 (.slice none 0 0))
    clear b1 B0 r0 GA
    go_wp2
    (try simp only [Exit.inBlock, Exit.then])
    exact bodyPost_ret (v := .tuple #[file 0 (.slice none 0 0), .int .i64 1]) (results_new (p := 2) (r := 3) rfl _ _ w.heap.size 0 _ 1 rfl rfl RR.out) rfl (E.out _ (sto2_below B1.out (Nat.le_refl _)))

end Go.Proofs.Ytghdjdejdpknjaa.Re
