/- The document's Sequence. -/
import Derived.Test.YtghdjdejdpknjaaReRfile
import Derived.Test.YtghdjdejdpknjaaReSeq
namespace Go.Proofs.Ytghdjdejdpknjaa.Re
open Go.RowKit
open Go.Proofs.Ytghdjdejdpknjaa.Rw (Rd Ow At)
open Go.Proofs.Ytghdjdejdpknjaa.Fl (R4 z4 rec4 K4 okR okL okR_at hdr rat goodF goodFB file ret_bool at_bool at4 row_cell row_frozen rgood_any)

/-- What holds at the head of the document's loop over the records. -/
structure URel (W0 : World) (l : List R4) (k : Nat) (u : Value) (wr : World) : Prop where
  own : Ow KI wr W0.heap.size 3 u ((takL l).take (k - 1))
  bel : Below W0.heap.size W0 wr
  pla : ∀ i, 1 ≤ i → i < k → plain (rat l i)

set_option maxHeartbeats 4000000 in
theorem rsequence_any (w : World) (p : Int) (v : Value) (l : List R4) (R : Rd K4 w v l) (ok : okL l) : Calls Try.prog 9 #[file p v] w (SeqPost w p l) := by
  have B0 := Lib.hid ((Below.refl w.heap.size w).alloc (Nat.le_refl _) (.cells #[.int .i64 p, v] 25))
  have X0 := Lib.hid (heap_alloc_new w (.cells #[.int .i64 p, v] 25))
  have Z0 : Hid ((w.alloc (.cells #[.int .i64 p, v] 25)).heap.size = w.heap.size + 1) := Lib.hid (by simp)
  have R0 := Lib.hid (R.below B0.out)
  clear R
  by_cases hg : goodF p l
  · have GA := Lib.hid (fun w v R => at_bool (show goodFB p l = true from decide_eq_true hg) (rgood_any w p v l R))
    have hl := hg.2.2.1
    have hl2 := hg.2.2.2.1
    have HG := Lib.hid hg
    have OK := Lib.hid ok
    clear hg ok
    have YES := Lib.hid (fun h u w' => sq_yes (w := w) (p := p) (l := l) (w' := w') h u)
    have NO := Lib.hid (fun h w' => sq_no (w := w) (p := p) (l := l) (w' := w') h)
    by_cases h3 : p = 3
    · subst h3
      have IS := Lib.hid (fun h => is_of HG.out h)
      have IP : Hid (∀ i, 1 ≤ i → i < l.length → ¬ plain (rat l i) → ¬ isS 3 l) := Lib.hid (fun i h1 h2 h h' => h (is_plain h' h1 h2))
      have IQ : Hid (¬ seqP (takL l) → ¬ isS 3 l) := Lib.hid (fun h h' => h h'.2.1)
      have RN : Hid (∀ k, k + 1 < l.length → (takL l).take k ++ [(rat l (k + 1)).1] = (takL l).take (k + 1)) := Lib.hid (fun k h => tak_next h)
      have RA : Hid ((takL l).take (l.length - 1) = takL l) := Lib.hid (by rw [← tak_len, List.take_length])
      have RL : Hid (∀ k, k ≤ l.length - 1 → ((takL l).take k).length = k) := Lib.hid (fun k h => by rw [List.length_take, tak_len]; omega)
      obtain ⟨a, cap, rfl, ⟨hc, _⟩, hm, hA⟩ := R0.out
      obtain ⟨b, off, rfl, hA2⟩ := hA (by omega)
      have A0 := Lib.hid hA2
      unfold maxLen at hm
      clear hA hA2
      generalize hn : l.length = n at *
      have HN := Lib.hid hn
      clear hn
      unfold file at *
      go_enter Try.func9, Try.ntmps9
      go_upto_region 1 with fail
      generalize w.alloc (.cells #[.int .i64 3, .slice (some ⟨b, off, none⟩) n cap] 25) = W0 at *
      have O0 := Lib.hid (Rw.Ow.made (K := KI) W0 W0.heap.size 3 (Nat.le_refl _))
      have B1 := Lib.hid ((Below.refl W0.heap.size W0).alloc (Nat.le_refl _) (.cells #[] 3))
      go_upto_region 2 with fail
      generalize W0.alloc (.cells #[] 3) = W1 at *
      generalize Value.slice (some ⟨W0.heap.size, 0, none⟩) 0 0 = u0 at *
      have wl := Z0.out
      have X1 := (B1.out.block w.heap.size (by omega)).trans X0.out
      have c0 : W1.cell? ⟨w.heap.size, 0, none⟩ = some (.int .i64 3) := row_cell X1 0
      have c1 : W1.cell? ⟨w.heap.size, 1, none⟩ = some (.slice (some ⟨b, off, none⟩) n cap) := row_cell X1 1
      go_wp2_with fail
      refine (GA.out _ _ (R0.out.below B1.out)).mono ?_
      rintro e w1 ⟨rfl, b1⟩
      have B2 := Lib.hid (B1.out.trans (b1.mono B1.out.size))
      have O2 := Lib.hid (O0.out.keep b1)
      have d0 : w1.cell? ⟨w.heap.size, 0, none⟩ = some (.int .i64 3) := row_cell ((B2.out.block w.heap.size (by omega)).trans X0.out) 0
      clear b1 GA B1 O0 R0 c0 c1 X1
      go_wp2
      clear d0
      have MA := Lib.hid (fun w v R => rmay_any w v (takL l) R)
      have BZ : Hid (∀ wr, Below W0.heap.size W0 wr → Below w.heap.size w wr) := Lib.hid (fun wr h => B0.out.trans (h.mono (by omega)))
      clear wl
      generalize hT : takL l = T at *
      have HT := Lib.hid hT
      clear hT
      go_loopw [5, 4] (fun i u wr => ∃ (k : Nat), 1 ≤ k ∧ k ≤ n ∧ i = .int .i64 k ∧ Hid (URel W0 l k u wr)) (fun i _ _ => n - (intOf i).toNat)
      case atStart => exact ⟨1, Nat.le_refl _, hl, rfl, Lib.hid ⟨by rw [Nat.sub_self, List.take_zero]; exact O2.out, B2.out, fun i h1 h2 => by omega⟩⟩
      case round =>
        obtain ⟨k, hk1, hk, rfl, RR⟩ := hrel
        obtain ⟨av, cv, ev, hcv, hmv⟩ := RR.out.own.slice
        rw [HT.out, RL.out (k - 1) (by omega)] at ev hcv
        generalize hLn : k - 1 = Ln at ev hcv
        have HLn := Lib.hid hLn
        clear hLn
        subst ev
        have XR := Lib.hid ((RR.out.bel.block w.heap.size (by have := Z0.out; omega)).trans X0.out)
        have c1 : wr.cell? ⟨w.heap.size, 1, none⟩ = some (.slice (some ⟨b, off, none⟩) n cap) := row_cell XR.out 1
        by_cases hlt : k < n
        · obtain ⟨d0, d1, d2, d3⟩ := at4 (A0.out.below RR.out.bel) k (by rw [HN.out]; exact hlt)
          have kv := (okR_at OK.out k).1
          have P1 := Lib.hid (IP.out k hk1 hlt)
          have P2 : Hid (plain (rat l k) → ∀ i, 1 ≤ i → i < k + 1 → plain (rat l i)) := Lib.hid (fun g i h1 h2 => by
            by_cases e : i = k
            · rw [e]; exact g
            · exact RR.out.pla i h1 (by omega))
          have RX : Hid (T.take (k - 1) ++ [(rat l k).1] = T.take k) := Lib.hid (by have := RN.out (k - 1) (by omega); rw [show k - 1 + 1 = k by omega] at this; exact this)
          have BW := Lib.hid (BZ.out _ RR.out.bel)
          generalize hy : rat l k = y at *
          have HY := Lib.hid hy
          clear hy
          obtain ⟨y1, y2, y3, y4⟩ := y
          unfold plain at P1 P2
          simp only at d0 d1 d2 d3 kv P1 P2 RX
          have zb := RR.out.bel.size
          by_cases h2 : y2 = 0
          · subst h2
            by_cases h3 : y3 = 0
            · subst h3
              by_cases h4 : y4 = 0
              · subst h4
                have PP := Lib.hid (P2.out ⟨rfl, rfl, rfl⟩)
                clear P1 P2
                have W0' : IntKind.i64.wrap y1 = y1 := IntWalk.i64_in _ (by omega)
                go_wp2_with (at_builtin; refine Rw.push_step Try.underlying22 infoI rfl (by omega) rfl _ _ rfl W0.heap.size _ _ rfl ((RR.out.own.alloc _).alloc _) _ y1 rfl ?d1 ?d2 ?d3 ?_)
                case d1 =>
                  intro j u hu
                  match j, hu with
                  | 0, hu => simp [KI, Rw.int] at hu; subst hu; rw [addr_zero]; go_simp
                case d2 => rw [HT.out, RL.out (k - 1) (by omega)]; omega
                case d3 => simp; omega
                intro v' w3 o3 b3
                rw [HT.out, RX.out, ← HT.out] at o3
                have N3 : Hid (URel W0 l (k + 1) v' w3) := Lib.hid ⟨o3, ((RR.out.bel.alloc zb _).alloc (by simp; omega) _).trans (b3.mono (Nat.le_refl _)), PP.out⟩
                obtain ⟨av', cv', ev', _, _⟩ := o3.slice
                rw [HT.out, RL.out _ (by omega)] at ev'
                subst ev'
                clear o3 b3 RR RX kv PP XR HY BW c1
                go_wp2
                go_roundw
                case rel => exact ⟨k + 1, by omega, by omega, by go_num, N3⟩
                case measure => simp [intOf]; omega
              · have E := Lib.hid (NO.out (P1.out (fun g => h4 g.2.2)) _ ((BW.out.alloc BW.out.size (.cells #[.int .u8 y1, .int .u8 0, .int .u8 0, .int .u8 y4] 47))))
                have t4 : (y4 == 0) = false := by simp [h4]
                clear P1 P2 h4
                go_wp2
                go_ret2
                exact E.out
            · have E := Lib.hid (NO.out (P1.out (fun g => h3 g.2.1)) _ ((BW.out.alloc BW.out.size (.cells #[.int .u8 y1, .int .u8 0, .int .u8 y3, .int .u8 y4] 47))))
              have t3 : (y3 == 0) = false := by simp [h3]
              clear P1 P2 h3
              go_wp2
              go_ret2
              exact E.out
          · have E := Lib.hid (NO.out (P1.out (fun g => h2 g.1)) _ ((BW.out.alloc BW.out.size (.cells #[.int .u8 y1, .int .u8 y2, .int .u8 y3, .int .u8 y4] 47))))
            have t2 : (y2 != 0) = true := by simp [h2]
            clear P1 P2
            go_wp2
            go_ret2
            exact E.out
        · obtain rfl : k = n := by omega
          have O3 := RR.out.own
          rw [HT.out, RA.out] at O3
          have RL2 := Lib.hid O3.rd
          have BW := Lib.hid (BZ.out _ RR.out.bel)
          have PL2 := Lib.hid (fun h => IS.out (fun i h1 h2 => RR.out.pla i h1 h2) h)
          clear RR O3 XR RN RL RA A0 OK IP HG
          by_cases hs : seqP T
          · have E := Lib.hid (YES.out (PL2.out hs))
            have MB := Lib.hid (fun w v R => at_bool (show seqB T = true from decide_eq_true hs) (MA.out w v R))
            clear YES NO PL2 MA IQ IS hs
            go_wp2_with fail
            refine (MB.out _ _ RL2.out).mono ?_
            rintro e w4 ⟨rfl, b4⟩
            have E4 := Lib.hid (E.out _ _ (RL2.out.below b4) (BW.out.trans (b4.mono BW.out.size)))
            clear b4 MB E
            go_wp2
            go_ret2
            exact E4.out
          · have E := Lib.hid (NO.out (IQ.out hs))
            have MB := Lib.hid (fun w v R => at_bool (show seqB T = false from decide_eq_false hs) (MA.out w v R))
            clear YES NO PL2 MA IQ IS hs
            go_wp2_with fail
            refine (MB.out _ _ RL2.out).mono ?_
            rintro e w4 ⟨rfl, b4⟩
            have E4 := Lib.hid (E.out _ (BW.out.trans (b4.mono BW.out.size)))
            clear b4 MB E
            go_wp2
            go_ret2
            exact E4.out
    · have E := Lib.hid (NO.out (fun h => h3 h.2.2.1))
      have t0 : (p == 3) = false := by simp [h3]
      clear YES NO HG OK h3
      obtain ⟨a, cap, rfl, _, hm, hA⟩ := R0.out
      clear hA
      generalize l.length = n at *
      unfold file at *
      go_enter Try.func9, Try.ntmps9
      go_upto_region 1 with fail
      generalize w.alloc (.cells #[.int .i64 p, .slice a n cap] 25) = W0 at *
      have B1 := Lib.hid ((Below.refl W0.heap.size W0).alloc (Nat.le_refl _) (.cells #[] 3))
      have wl := Z0.out
      go_upto_region 2 with fail
      generalize W0.alloc (.cells #[] 3) = W1 at *
      have X1 := (B1.out.block w.heap.size (by omega)).trans X0.out
      have c0 : W1.cell? ⟨w.heap.size, 0, none⟩ = some (.int .i64 p) := row_cell X1 0
      have c1 : W1.cell? ⟨w.heap.size, 1, none⟩ = some (.slice a n cap) := row_cell X1 1
      go_wp2_with fail
      refine (GA.out _ _ (R0.out.below B1.out)).mono ?_
      rintro e w1 ⟨rfl, b1⟩
      have B2 := Lib.hid (B1.out.trans (b1.mono B1.out.size))
      have d0 : w1.cell? ⟨w.heap.size, 0, none⟩ = some (.int .i64 p) := row_cell ((B2.out.block w.heap.size (by omega)).trans X0.out) 0
      have E2 := Lib.hid (E.out _ (B0.out.trans (B2.out.mono (by omega))))
      clear b1 GA B1 R0 c0 c1 X1 B2
      go_wp2
      go_ret2
      exact E2.out
  · have GA := Lib.hid (fun w v R => at_bool (show goodFB p l = false from decide_eq_false hg) (rgood_any w p v l R))
    have E := Lib.hid (fun w' => sq_no (w := w) (p := p) (l := l) (w' := w') (fun h => hg h.1))
    clear hg ok
    obtain ⟨a, cap, rfl, _, hm, hA⟩ := R0.out
    clear hA
    generalize l.length = n at *
    unfold file at *
    go_enter Try.func9, Try.ntmps9
    go_upto_region 1 with fail
    generalize w.alloc (.cells #[.int .i64 p, .slice a n cap] 25) = W0 at *
    have B1 := Lib.hid ((Below.refl W0.heap.size W0).alloc (Nat.le_refl _) (.cells #[] 3))
    have wl := Z0.out
    go_upto_region 2 with fail
    generalize W0.alloc (.cells #[] 3) = W1 at *
    have X1 := (B1.out.block w.heap.size (by omega)).trans X0.out
    have c0 : W1.cell? ⟨w.heap.size, 0, none⟩ = some (.int .i64 p) := row_cell X1 0
    have c1 : W1.cell? ⟨w.heap.size, 1, none⟩ = some (.slice a n cap) := row_cell X1 1
    go_wp2_with fail
    refine (GA.out _ _ (R0.out.below B1.out)).mono ?_
    rintro e w1 ⟨rfl, b1⟩
    have B2 := Lib.hid (B1.out.trans (b1.mono B1.out.size))
    have E2 := Lib.hid (E.out _ (B0.out.trans (B2.out.mono (by omega))))
    clear b1 GA B1 R0 c0 c1 X1 B2
    go_wp2
    go_ret2
    exact E2.out

end Go.Proofs.Ytghdjdejdpknjaa.Re
