/- The document's File. -/
import Derived.Test.YtghdjdejdpknjaaReNext
import Derived.Test.YtghdjdejdpknjaaFlNew
import Derived.Test.YtghdjdejdpknjaaSz
import Derived.Deep.Cut
namespace Go.Proofs.Ytghdjdejdpknjaa.Re
open Go.RowKit
open Go.Proofs.Ytghdjdejdpknjaa.Rw (Rd Ow At)
open Go.Proofs.Ytghdjdejdpknjaa.Fl (R4 z4 rec4 K4 okR hdr rat file ret_bool at_bool at4 row_cell row_frozen sto2_row sto2_below sto2_off results_new rhdr_any infoR)
set_option maxRecDepth 100000
attribute [local irreducible] Sd.wpSd wpQuiet Sz.wpSz

/-- 'append(list, x)', where it is carried out alone. -/
theorem wp_push {α : Type} {Kd : Rw.Kind α} {P : Program} {K : Act → World → Prop} {w : World} {E : TypeId} {o : Oper} {a : Act} {Q : Exit → Act → World → Prop} {T : TypeId} {z : Value} {bytes : Nat} (ht : P.underlying T = some (.slice E))
    (hi : (P.info? E).map (fun i => (i.zero, i.size, i.bytes)) = some (some z, Kd.n, bytes)) (hz : z.cells.size = Kd.n) (hby : bytes ≤ 64) (s x : Operand)
    (ho : o.op = .call { callee := .builtin .append, args := #[s, x], argTypes := #[T, T] }) (B : Nat) (v : Value) (l : List α) (hs : a.eval s = v) (hown : Ow Kd w B E v l)
    (ad : Addr) (c : α) (hx : a.eval x = .slice (some ad) 1 1) (hc : ∀ j u, (Kd.enc c)[j]? = some u → w.cell? (ad.add j) = some u) (hlen : l.length < 2199023255552) (hB : B ≤ w.heap.size)
    (h : ∀ v' w', Ow Kd w' B E v' (l ++ [c]) → Below B w w' → Rw.Far E w w' → K (a.put o.dst v') w') : o.wp P a w K Q := by
  obtain ⟨i0, hi0, hz0, hz1, hz2⟩ := info_parts hi
  have hb : (l.length + 1) * bytes ≤ 140737488355328 := Nat.le_trans (Nat.mul_le_mul (show l.length + 1 ≤ 2199023255552 by omega) hby) (by omega)
  refine wp_append_own _ s x T ho B E i0 z Kd.n bytes ht hi0 hz0 hz1 hz2 hz Kd.pos v l.length (Kd.flat l) hs hown ad 1 1 (Kd.enc c) hx (by rw [Kd.len, Nat.one_mul]) hc (Kd.one c) (by unfold maxLen; omega) hb hB ?_
  intro v' w' h2 h3 _
  exact h v' w' (Rw.Ow.push h2) ((Below.refl B w).grown h3 hB fun k hk => (World.ownsRow.lt hown k hk).1) (Rw.far_grown hown h3)

/-- What holds at the head of the document's loop over the numbers. -/
structure GRel (w : World) (m : List R4) (gF : Nat) (v : Value) (wr : World) : Prop where
  row : wr.heap[gF]? = some (.cells #[.int .i64 3, v] 25 (0, 0))
  res : wr.heap[w.heap.size]? = some (.cells #[.int .i64 0, .slice none 0 0] 25 (0, 0))
  own : Ow K4 wr (w.heap.size + 1) 47 v m
  bel : Below w.heap.size w wr
  lt : w.heap.size < gF
/-- The class of the worlds of a round. -/
def GC (gF : Nat) (v : Value) (ad : Addr) (x : Int) (W : World) : Prop := W.heap[gF]? = some (.cells #[.int .i64 3, v] 25 (0, 0)) ∧ W.cell? ad = some (.int .i64 x)

set_option maxHeartbeats 2000000 in
theorem rfile_any (w : World) (v : Value) (l : List Int) (R : Rd KI w v l) : Calls Try.prog 7 #[v] w (FilePost w l) := by
  have B0 := Lib.hid ((Below.refl w.heap.size w).alloc (Nat.le_refl _) (.cells #[.int .i64 0, .slice none 0 0] 25))
  have R0 := Lib.hid (R.below B0.out)
  by_cases hm : seqP l
  · have GA := Lib.hid (at_bool (show seqB l = true from decide_eq_true hm) (rmay_any _ v l R0.out))
    have HE := Lib.hid (fun u w' => file_yes (w := w) hm u w')
    have hl := hm.1.2
    have OK : Hid (∀ i, i < l.length → okI (iat l i)) := Lib.hid hm.2
    clear hm R0
    obtain ⟨a, cap0, rfl, _, hm, hA⟩ := R
    have HA := Lib.hid hA
    unfold maxLen at hm
    clear hA
    have HF : Hid (fileL l = hdr 3 (l.length : Int) :: l.map putI) := Lib.hid rfl
    have PS := Lib.hid (fun h k => own_next (k := k) (l := l) h)
    have PE : Hid (∀ h : R4, (h :: (l.take l.length).map putI) = h :: l.map putI) := Lib.hid (fun h => by rw [List.take_length])
    have PL : Hid (∀ (h : R4) k, k ≤ l.length → (h :: (l.take k).map putI).length = k + 1) := Lib.hid (fun h k hk => by simp [List.length_take]; omega)
    have HH := Lib.hid (fun w => rhdr_any w 3 (l.length : Int) (by omega) (by omega) (by omega) (by omega))
    unfold rec4 at HH
    generalize hdr 3 (l.length : Int) = h at *
    generalize hn : l.length = n at *
    have HN := Lib.hid hn
    clear hn
    go_enter Try.func7, Try.ntmps7
    go_wp2_with fail
    refine GA.out.mono ?_
    rintro e w0 ⟨rfl, b1⟩
    have z0 : w.heap.size + 1 ≤ w0.heap.size := by have := b1.size; simp at this; omega
    have B1 := Lib.hid (B0.out.trans (b1.mono B0.out.size))
    have S1 : Hid (w0.heap[w.heap.size]? = some (.cells #[.int .i64 0, .slice none 0 0] 25 (0, 0))) := Lib.hid ((b1.block _ (by simp)).trans (heap_alloc_new w _))
    clear b1 GA B0
    go_wp2_with fail
    refine (HH.out _).mono ?_
    rintro e w1 ⟨rfl, b1⟩
    have z1 : w.heap.size < w1.heap.size := by have := b1.size; omega
    have B2 := Lib.hid (B1.out.trans (b1.mono B1.out.size))
    have r0 := (b1.block _ (by omega)).trans S1.out
    have hz : (w1.alloc (.cells #[.int .u8 h.1, .int .u8 h.2.1, .int .u8 h.2.2.1, .int .u8 h.2.2.2] 47)).heap.size = w1.heap.size + 1 := by simp
    have N0 : Hid (GRel w [h] (w1.heap.size + 1) (.slice (some ⟨w1.heap.size, 0, none⟩) 1 1) ((w1.alloc (.cells #[.int .u8 h.1, .int .u8 h.2.1, .int .u8 h.2.2.1, .int .u8 h.2.2.2] 47)).alloc (.cells #[.int .i64 3, .slice (some ⟨w1.heap.size, 0, none⟩) 1 1] 25))) := by
      refine Lib.hid ⟨?_, ?_, (Rw.Ow.lit (K := K4) w1 (w.heap.size + 1) 47 [h] (by omega) (by unfold maxLen; simp)).alloc _, (B2.out.alloc (by omega) _).alloc (by rw [hz]; omega) _, by omega⟩
      · have := heap_alloc_new (w1.alloc (.cells #[.int .u8 h.1, .int .u8 h.2.1, .int .u8 h.2.2.1, .int .u8 h.2.2.2] 47)) (.cells #[.int .i64 3, .slice (some ⟨w1.heap.size, 0, none⟩) 1 1] 25)
        rw [hz] at this
        exact this
      · exact (Below.heap_alloc _ _ _ (by rw [hz]; omega)).trans ((Below.heap_alloc _ _ _ z1).trans r0)
    clear b1 r0 HH hz S1 B1
    go_wp2
    generalize (w1.alloc (.cells #[.int .u8 h.1, .int .u8 h.2.1, .int .u8 h.2.2.1, .int .u8 h.2.2.2] 47)).alloc (.cells #[.int .i64 3, .slice (some ⟨w1.heap.size, 0, none⟩) 1 1] 25) = W at *
    generalize w1.heap.size + 1 = g at *
    generalize Value.slice (some ⟨w1.heap.size, 0, none⟩) 1 1 = v0 at *
    go_loopw [5] (fun i wr => ∃ (k : Nat) (v : Value), k ≤ n ∧ i = .int .i64 k ∧ Hid (GRel w (h :: (l.take k).map putI) g v wr)) (fun i _ => n - (intOf i).toNat)
    case atStart => exact ⟨0, v0, Nat.zero_le _, rfl, N0⟩
    case round =>
      obtain ⟨k, v, hk, rfl, RR⟩ := hrel
      obtain ⟨av, cv, ev, _, _⟩ := RR.out.own.slice
      rw [PL.out h k hk] at ev
      generalize k + 1 = L at ev
      subst ev
      have glt := RR.out.lt
      by_cases hlt : k < n
      · obtain ⟨b, off, rfl, A⟩ := HA.out (by omega)
        have cw := at1 A k (by rw [HN.out]; exact hlt)
        have bw := World.block_lt_of_cell? _ _ cw
        have CW := Lib.hid cw
        have ok := OK.out k hlt
        have PK := Lib.hid (PS.out h k hlt)
        have PLK := Lib.hid (PL.out h k hk)
        have AA := Lib.hid A
        clear A cw
        unfold okI at ok
        generalize iat l k = x at *
        have W2 : IntKind.u8.wrap x = x := by rw [IntKind.wrap]; simp [IntKind.signed, IntKind.bits]; omega
        go_upto_region 7 with fail
        have C0 : GC g (.slice av L cv) ⟨b, off + k, none⟩ x wr.drew := ⟨RR.out.row, (RR.out.bel.cell bw).trans CW.out⟩
        have c0 := Sc.cell_in (C := GC g (.slice av L cv) ⟨b, off + k, none⟩ x) (a := ⟨b, off + k, none⟩) (fun W' h => h.2)
        have c1 := Sc.cell_in (C := GC g (.slice av L cv) ⟨b, off + k, none⟩ x) (a := ⟨g, 1, none⟩) (fun W' h => row_cell h.1 1)
        have ne : Nonempty (Sc.In (GC g (.slice av L cv) ⟨b, off + k, none⟩ x)) := ⟨⟨_, C0⟩⟩
        have GG : Hid (GRel w (h :: (l.take k).map putI) g (.slice av L cv) wr.drew) := Lib.hid ⟨RR.out.row, RR.out.res, RR.out.own, RR.out.bel.drew, RR.out.lt⟩
        clear RR
        refine Sz.start (GC g (.slice av L cv) ⟨b, off + k, none⟩ x) [(false, 0), (false, 1), (false, 2), (false, 3), (false, 4), (false, 5), (false, 6), (false, 7), (true, 8), (true, 9), (false, 10)] 11 (by kernel_rfl) (by kernel_rfl) (by kernel_rfl) rfl rfl C0 ?_
        dsimp only [Sd.picks, List.getElem?_cons_succ, List.getElem?_cons_zero]
        repeat (refine Sz.lit ?_; quiet_step (fail); refine wpQuiet_nil ?_)
        have C1 := Lib.hid C0
        clear C0 c0 c1
        generalize wr.drew = w4 at *
        refine Sz.call (by rfl) (fun K hK => ?_)
        go_simp
        have zB := GG.out.bel.size
        have ba := Below.heap_alloc w4 (.cells #[.int .u8 x, .int .u8 0, .int .u8 0, .int .u8 0] 47)
        have C5 : GC g (.slice av L cv) ⟨b, off + k, none⟩ x (w4.alloc (.cells #[.int .u8 x, .int .u8 0, .int .u8 0, .int .u8 0] 47)) := ⟨(ba g (lt_of_block C1.out.1)).trans C1.out.1, (((Below.refl w4.heap.size w4).alloc (Nat.le_refl _) _).cell (World.block_lt_of_cell? _ _ C1.out.2)).trans C1.out.2⟩
        have B5 := Lib.hid (GG.out.bel.alloc zB (.cells #[.int .u8 x, .int .u8 0, .int .u8 0, .int .u8 0] 47))
        have O5 := Lib.hid (GG.out.own.alloc (.cells #[.int .u8 x, .int .u8 0, .int .u8 0, .int .u8 0] 47))
        have S5 := Lib.hid ((ba w.heap.size (lt_of_block GG.out.res)).trans GG.out.res)
        have Y5 := Lib.hid (heap_alloc_new w4 (.cells #[.int .u8 x, .int .u8 0, .int .u8 0, .int .u8 0] 47))
        have hz5 : Hid (w.heap.size + 1 ≤ (w4.alloc (.cells #[.int .u8 x, .int .u8 0, .int .u8 0, .int .u8 0] 47)).heap.size) := Lib.hid (by simp; omega)
        refine hK _ _ (Sc.Cl.of C5) ?_
        have C5' := Lib.hid C5
        clear hK K ba C5 C1 GG
        generalize (w4.alloc (.cells #[.int .u8 x, .int .u8 0, .int .u8 0, .int .u8 0] 47)) = w5 at *
        generalize w4.heap.size = g4 at *
        refine Sz.call (by rfl) (fun K hK => ?_)
        refine wp_push (Kd := K4) Try.underlying23 infoR rfl (by omega) _ _ rfl (w.heap.size + 1) _ _ rfl O5.out ⟨g4, 0, none⟩ (putI x) rfl ?a1 ?a2 hz5.out ?_
        case a1 =>
          intro j u hu
          have c := row_cell Y5.out j
          match j, hu with
          | 0, hu => simp [K4, putI] at hu; subst hu; exact c
          | 1, hu => simp [K4, putI] at hu; subst hu; exact c
          | 2, hu => simp [K4, putI] at hu; subst hu; exact c
          | 3, hu => simp [K4, putI] at hu; subst hu; exact c
          | j + 4, hu => simp [K4] at hu
        case a2 => rw [PLK.out]; omega
        intro v6 w6 o6 b6 f6
        rw [PK.out] at o6
        have rr := f6 g _ _ C5'.out.1 (by decide)
        have rs := f6 w.heap.size _ _ S5.out (by decide)
        have C6 : GC g (.slice av L cv) ⟨b, off + k, none⟩ x w6 := ⟨rr, ((B5.out.trans (b6.mono (Nat.le_succ _))).cell bw).trans CW.out⟩
        obtain ⟨v6a, v6c, n6, rfl⟩ : ∃ a c n, v6 = .slice a n c := by obtain ⟨a, c, e, _⟩ := o6.slice; exact ⟨a, c, _, e⟩
        have N6 : Hid (GRel w (h :: (l.take (k + 1)).map putI) g (.slice v6a n6 v6c) (w6.setCell ⟨g, 1, none⟩ (.slice v6a n6 v6c))) := by
          refine Lib.hid ⟨Rw.heap_setCell_same rr _, (Below.heap_setCell w6 ⟨g, 1, none⟩ _ w.heap.size (show w.heap.size ≠ g by omega)).trans rs, o6.far (p := ⟨g, 1, none⟩) rr (by decide) _, ?_, glt⟩
          exact (B5.out.trans (b6.mono (Nat.le_succ _))).setCell (by simp; omega) _
        have c6 : w6.cell? ⟨g, 1, none⟩ = some (.slice av L cv) := row_cell rr 1
        have e6 := row_frozen rr 1
        refine hK _ _ (Sc.Cl.of C6) ?_
        have c1 := Sc.cell_in (C := GC g (.slice av L cv) ⟨b, off + k, none⟩ x) (a := ⟨g, 1, none⟩) (fun W' h => row_cell h.1 1)
        clear hK K rr rs b6 f6 o6 B5 O5 S5 Y5 C5' hz5 C6
        repeat (refine Sz.lit ?_; quiet_step (fail); refine wpQuiet_nil ?_)
        refine Sz.done ?_
        clear c1
        go_simp
        clear c6 e6
        generalize (w6.setCell ⟨g, 1, none⟩ (.slice v6a n6 v6c)) = w8 at *
        refine NoPanic.normal ?_
        go_wp2
        go_roundw
        case rel => exact ⟨k + 1, _, by omega, by go_num, N6⟩
        case measure => simp [intOf]; omega
      · obtain rfl : k = n := by omega
        have PEK := Lib.hid (PE.out h)
        clear PE PL PS OK
        have O5 := Lib.hid (show Ow K4 wr (w.heap.size + 1) 47 (.slice av L cv) (fileL l) by rw [HF.out, ← PEK.out]; exact RR.out.own)
        have d0 : wr.cell? ⟨g, 0, none⟩ = some (.int .i64 3) := row_cell RR.out.row 0
        have d1 : wr.cell? ⟨g, 1, none⟩ = some (.slice av L cv) := row_cell RR.out.row 1
        have r0 : wr.cell? ⟨w.heap.size, 0, none⟩ = some (.int .i64 0) := row_cell RR.out.res 0
        have r1 : wr.cell? ⟨w.heap.size, 1, none⟩ = some (.slice none 0 0) := row_cell RR.out.res 1
        have s0 := row_frozen RR.out.res 0
        have s1 := row_frozen RR.out.res 1
        have hne : (Value.slice av L cv).ownBlock ≠ some w.heap.size := O5.out.range (.inl (by omega))
        have RV := Lib.hid (sto2_row RR.out.res 3 (.slice av L cv))
        have O6 := Lib.hid (sto2_off (u := .slice av L cv) O5.out hne 3)
        have B6 := Lib.hid (sto2_below (p := 3) (v := .slice av L cv) RR.out.bel (Nat.le_refl _))
        clear RR O5 hne PEK
        go_wp2
        (try simp only [Exit.inBlock, Exit.then])
        exact bodyPost_ret (v := .tuple #[file 3 _, .int .i64 0]) (results_new (p := 2) (r := 3) rfl _ _ w.heap.size 3 _ 0 rfl rfl RV.out) rfl (HE.out _ _ O6.out.rd B6.out)
  · have GA := Lib.hid (at_bool (show seqB l = false from decide_eq_false hm) (rmay_any _ v l R0.out))
    have E := Lib.hid (file_no (w := w) hm)
    clear hm
    obtain ⟨a, cap, rfl, _, hm, _⟩ := R
    clear R0
    generalize l.length = n at *
    go_enter Try.func7, Try.ntmps7
    go_wp2_with fail
    refine GA.out.mono ?_
    rintro e w1 ⟨rfl, b1⟩
    have z1 : w.heap.size < w1.heap.size := by have := b1.size; simp at this; omega
    have B1 := Lib.hid (B0.out.trans (b1.mono B0.out.size))
    have r0 : w1.heap[w.heap.size]? = some (.cells #[.int .i64 0, .slice none 0 0] 25 (0, 0)) := (b1.block _ (by simp)).trans (heap_alloc_new w _)
    have c0 : w1.cell? ⟨w.heap.size, 0, none⟩ = some (.int .i64 0) := row_cell r0 0
    have c1 : w1.cell? ⟨w.heap.size, 1, none⟩ = some (.slice none 0 0) := row_cell r0 1
    have f0 := row_frozen r0 0
    have f1 := row_frozen r0 1
    have RR := Lib.hid (sto2_row r0 0 (.slice none 0 0))
    clear b1 B0 r0 GA
    go_wp2
    (try simp only [Exit.inBlock, Exit.then])
    exact bodyPost_ret (v := .tuple #[file 0 (.slice none 0 0), .int .i64 1]) (results_new (p := 2) (r := 3) rfl _ _ w.heap.size 0 _ 1 rfl rfl RR.out) rfl (E.out _ (sto2_below B1.out (Nat.le_refl _)))

end Go.Proofs.Ytghdjdejdpknjaa.Re
