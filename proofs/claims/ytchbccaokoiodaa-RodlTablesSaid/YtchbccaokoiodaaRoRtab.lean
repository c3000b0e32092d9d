/- The document's Table. -/
import Derived.Test.YtchbccaokoiodaaRoTab
import Derived.Test.YtchbccaokoiodaaRoRput
namespace Go.Proofs.Ytchbccaokoiodaa.Ro
open Go.RowKit
open Go.Proofs.Ytchbccaokoiodaa.Rw (Rd Ow At)
open Go.Proofs.Ytchbccaokoiodaa.Fl (R4 z4 rec4 K4 okR okL okR_at hdr rat goodF goodFB file ret_bool at_bool at4 row_cell row_frozen)

set_option maxHeartbeats 2000000 in
theorem rtable_any (w : World) (p : Int) (v : Value) (l : List R4) (R : Rd K4 w v l) (ok : okL l) : Calls Try.prog 15 #[file p v] w (TabPost w p l) := by
  have B0 := Lib.hid ((Below.refl w.heap.size w).alloc (Nat.le_refl _) (.cells #[.int .i64 p, v] 40))
  have R0 := Lib.hid (R.below B0.out)
  have HE : Hid (tabL p l = [] ∧ tabN p l = 2 → ∀ w', Below w.heap.size w w' → TabPost w p l (.returned (.tuple #[.slice none 0 0, .int .i64 2])) w') := Lib.hid (fun h w' hb => ⟨_, by rw [h.2], by rw [h.1]; exact Rw.Rd.nil _, hb⟩)
  clear R
  by_cases hg : goodF p l
  · have GA := Lib.hid (at_bool (show goodFB p l = true from decide_eq_true hg) (Fl.rgood_any _ p v l R0.out))
    have hl := hg.2.2.1
    have hl2 := hg.2.2.2.1
    have HG := Lib.hid hg
    have OK := Lib.hid ok
    clear hg ok
    obtain ⟨a, cap, rfl, ⟨hc, _⟩, hm, hA⟩ := R0.out
    obtain ⟨b, off, rfl, hA⟩ := hA (by omega)
    have HA := Lib.hid hA
    unfold maxLen at hm
    clear hA R0
    generalize hn : l.length = n at *
    have HN := Lib.hid hn
    clear hn
    unfold file at *
    go_enter Try.func15, Try.ntmps15
    go_wp2_with fail
    refine GA.out.mono ?_
    rintro e w1 ⟨rfl, b1⟩
    have B1 := Lib.hid (B0.out.trans (b1.mono B0.out.size))
    have A1 := Lib.hid (HA.out.below b1)
    have c1 : w1.cell? ⟨w.heap.size, 1, none⟩ = some (.slice (some ⟨b, off, none⟩) n cap) := (b1.cell (by simp)).trans (by go_simp)
    clear b1 GA B0 HA
    have HS : Hid (scan (l.drop 1) = none → ∀ w', Below w.heap.size w w' → TabPost w p l (.returned (.tuple #[.slice none 0 0, .int .i64 2])) w') := Lib.hid (fun h => HE.out (tab_stop h))
    have HT : Hid (∀ L, scan (l.drop 1) = some L → TabEnd w p l L) := Lib.hid (fun L h => tab_end HG.out h)
    have KR := Lib.hid OK.out
    have LR : Hid ((l.drop 1).length = n - 1) := Lib.hid (by rw [List.length_drop, HN.out])
    have HD : Hid (∀ k, 1 ≤ k → k < n → rat l k = rat (l.drop 1) (k - 1)) := Lib.hid (fun k h1 h2 => by unfold rat; simp only [List.getD_eq_getElem?_getD, List.getElem?_drop]; rw [show 1 + (k - 1) = k by omega])
    have C1 := Lib.hid c1
    have O0 := Lib.hid (Rw.Ow.made (K := K5) w1 w1.heap.size 23 (Nat.le_refl _))
    have B00 := Lib.hid ((Below.refl w1.heap.size w1).alloc (Nat.le_refl _) (.cells #[] 23))
    clear HE HG OK c1
    generalize l.drop 1 = r at *
    go_wp2
    generalize w1.alloc (.cells #[] 23) = W at *
    generalize Value.slice (some ⟨w1.heap.size, 0, none⟩) 0 0 = u0 at *
    go_loopw [5, 4] (fun i u wr => ∃ (k : Nat) (L : List E5), 1 ≤ k ∧ k ≤ n ∧ i = .int .i64 k ∧ Hid (TRel w1 r (k - 1) u L wr)) (fun i _ _ => n - (intOf i).toNat)
    case atStart => exact ⟨1, [], Nat.le_refl _, hl, rfl, Lib.hid ⟨O0.out, read_start r, B00.out⟩⟩
    case round =>
      obtain ⟨k, L, hk1, hk, rfl, RR⟩ := hrel
      have c1 := (RR.out.bel.cell (World.block_lt_of_cell? _ _ C1.out)).trans C1.out
      obtain ⟨av, cv, ev, hcv, hmv⟩ := RR.out.own.slice
      generalize L.length = Ln at ev hcv
      subst ev
      by_cases hlt : k < n
      · obtain ⟨c0, c1', c2, c3⟩ := at4 (A1.out.below RR.out.bel) k (by rw [HN.out]; exact hlt)
        have kv := okR_at KR.out k
        have hkr : k - 1 < r.length := by rw [LR.out]; omega
        have hd := HD.out k hk1 hlt
        have TA := Lib.hid (fun w => rtake_any w (rat l k) kv)
        have Q1 : Hid (¬ okE (takeX (rat l k)) → scan r = none) := Lib.hid (by rw [hd]; exact read_bad RR.out.red hkr)
        have Q2 : Hid (okE (takeX (rat l k)) → (takeX (rat l k)).1 = 4 → scan r = some L) := Lib.hid (by rw [hd]; exact read_end RR.out.red hkr)
        have Q3 : Hid (okE (takeX (rat l k)) → (takeX (rat l k)).1 ≠ 4 → Read r (k - 1 + 1) (L ++ [takeX (rat l k)])) := Lib.hid (by rw [hd]; exact read_next RR.out.red hkr)
        clear kv hkr hd
        by_cases h1 : okE (takeX (rat l k))
        · have e1 : takeE (rat l k) = takeX (rat l k) := if_pos h1
          have e2 : takeN (rat l k) = 0 := if_pos h1
          rw [e1, e2] at TA
          have P2 := Lib.hid (Q2.out h1)
          have P3 := Lib.hid (Q3.out h1)
          clear e1 e2 Q1 Q2 Q3 h1
          unfold ent rec4 at TA
          generalize takeX (rat l k) = x at *
          generalize rat l k = y at *
          by_cases h4 : x.1 = 4
          · have TE := Lib.hid (HT.out L (P2.out h4))
            clear P2 P3 HS HT
            go_wp2_with fail
            refine (TA.out _).mono ?_
            rintro e w2 ⟨rfl, b2⟩
            have BA := RR.out.bel
            have B2 : Hid (Below w1.heap.size w1 w2) := Lib.hid (BA.trans (b2.mono BA.size))
            have O2 := Lib.hid (RR.out.own.keep b2)
            have BW : Hid (∀ o, Below w.heap.size w (w2.alloc o)) := Lib.hid (fun o => B1.out.trans ((B2.out.alloc B2.out.size o).mono B1.out.size))
            have RW : Hid (∀ o, Rd K5 (w2.alloc o) (.slice av Ln cv) L) := Lib.hid (fun o => (O2.out.alloc o).rd)
            clear BA b2 B2 O2 RR c0 c1' c2 c3 TA
            by_cases hm : mayP L
            · have E := Lib.hid (TE.out.1 hm)
              have IT := Lib.hid (fun w v R => at_bool (show mayB L = true from decide_eq_true hm) (rmay_any w v L R))
              clear TE hm
              go_wp2_with fail
              refine (IT.out _ _ (RW.out _)).mono ?_
              rintro e w4 ⟨rfl, b4⟩
              have E4 := Lib.hid (E.out _ _ (Rw.Rd.below (RW.out _) b4) (Below.trans (BW.out _) (b4.mono (Below.size (BW.out _)))))
              clear b4 E IT
              go_wp2
              go_ret2
              exact E4.out
            · have E := Lib.hid (TE.out.2 hm)
              have IT := Lib.hid (fun w v R => at_bool (show mayB L = false from decide_eq_false hm) (rmay_any w v L R))
              clear TE hm
              go_wp2_with fail
              refine (IT.out _ _ (RW.out _)).mono ?_
              rintro e w4 ⟨rfl, b4⟩
              have E4 := Lib.hid (E.out _ (Below.trans (BW.out _) (b4.mono (Below.size (BW.out _)))))
              clear b4 E IT
              go_wp2
              go_ret2
              exact E4.out
          · have PR := Lib.hid (P3.out h4)
            clear P2 P3 HS HT
            go_wp2_with fail
            refine (TA.out _).mono ?_
            rintro e w2 ⟨rfl, b2⟩
            have BA := RR.out.bel
            have B2 : Hid (Below w1.heap.size w1 w2) := Lib.hid (BA.trans (b2.mono BA.size))
            have O2 := Lib.hid (RR.out.own.keep b2)
            have LN := Lib.hid RR.out.red.1
            have z2 := B2.out.size
            clear BA b2 RR c0 c1' c2 c3 TA
            go_wp2_with (at_builtin; refine Rw.push_step Try.underlying41 infoE rfl (by omega) rfl _ _ rfl w1.heap.size _ _ rfl ((O2.out.alloc _).alloc _) _ x rfl ?d1 ?d2 ?d3 ?_)
            case d1 =>
              intro j u hu
              match j, hu with
              | 0, hu => simp [K5] at hu; subst hu; go_simp
              | 1, hu => simp [K5] at hu; subst hu; go_simp
              | 2, hu => simp [K5] at hu; subst hu; go_simp
              | 3, hu => simp [K5] at hu; subst hu; go_simp
              | 4, hu => simp [K5] at hu; subst hu; go_simp
              | j + 5, hu => simp [K5] at hu
            case d2 => rw [LN.out]; omega
            case d3 => simp; omega
            intro v' w3 o3 b3
            have N3 : Hid (TRel w1 r (k + 1 - 1) v' (L ++ [x]) w3) := Lib.hid ⟨o3, by rw [show k + 1 - 1 = k - 1 + 1 by omega]; exact PR.out, ((B2.out.alloc z2 _).alloc (by simp; omega) _).trans (b3.mono (Nat.le_refl _))⟩
            obtain ⟨av', cv', ev', _, _⟩ := o3.slice
            generalize (L ++ [x]).length = Ln' at ev'
            subst ev'
            clear o3 b3 O2 B2 PR LN
            go_wp2
            go_roundw
            case rel => exact ⟨k + 1, L ++ [x], by omega, by omega, by go_num, N3⟩
            case measure => simp [intOf]; omega
        · have e1 : takeE (rat l k) = z5 := if_neg h1
          have e2 : takeN (rat l k) = 2 := if_neg h1
          rw [e1, e2] at TA
          have E := Lib.hid (HS.out (Q1.out h1))
          clear e1 e2 Q1 Q2 Q3 h1 HS HT
          unfold ent rec4 at TA
          simp only [z5] at TA
          generalize rat l k = y at *
          go_wp2_with fail
          refine (TA.out _).mono ?_
          rintro e w2 ⟨rfl, b2⟩
          have BA := RR.out.bel
          have B2 : Hid (Below w1.heap.size w1 w2) := Lib.hid (BA.trans (b2.mono BA.size))
          have O2 := Lib.hid (RR.out.own.keep b2)
          have BW : Hid (∀ o, Below w.heap.size w (w2.alloc o)) := Lib.hid (fun o => B1.out.trans ((B2.out.alloc B2.out.size o).mono B1.out.size))
          clear BA b2 B2 O2 RR c0 c1' c2 c3 TA
          go_wp2
          go_ret2
          exact E.out _ (BW.out _)
      · obtain rfl : k = n := by omega
        have TE := Lib.hid (HT.out L (read_all (by rw [LR.out]; exact RR.out.red)))
        have BW : Hid (Below w.heap.size w wr) := Lib.hid (B1.out.trans (RR.out.bel.mono B1.out.size))
        have RW : Hid (Rd K5 wr (.slice av Ln cv) L) := Lib.hid RR.out.own.rd
        clear RR HS HT
        by_cases hm : mayP L
        · have E := Lib.hid (TE.out.1 hm)
          have IT := Lib.hid (fun w v R => at_bool (show mayB L = true from decide_eq_true hm) (rmay_any w v L R))
          clear TE hm
          go_wp2_with fail
          refine (IT.out _ _ RW.out).mono ?_
          rintro e w4 ⟨rfl, b4⟩
          have E4 := Lib.hid (E.out _ _ (Rw.Rd.below RW.out b4) (Below.trans BW.out (b4.mono (Below.size BW.out))))
          clear b4 E IT
          go_wp2
          go_ret2
          exact E4.out
        · have E := Lib.hid (TE.out.2 hm)
          have IT := Lib.hid (fun w v R => at_bool (show mayB L = false from decide_eq_false hm) (rmay_any w v L R))
          clear TE hm
          go_wp2_with fail
          refine (IT.out _ _ RW.out).mono ?_
          rintro e w4 ⟨rfl, b4⟩
          have E4 := Lib.hid (E.out _ (Below.trans BW.out (b4.mono (Below.size BW.out))))
          clear b4 E IT
          go_wp2
          go_ret2
          exact E4.out
  · have GA := Lib.hid (at_bool (show goodFB p l = false from decide_eq_false hg) (Fl.rgood_any _ p v l R0.out))
    have E := Lib.hid (HE.out (tab_bad hg))
    clear hg HE ok
    obtain ⟨a, cap, rfl, _, hm, hA⟩ := R0.out
    clear hA R0
    generalize l.length = n at *
    unfold file at *
    go_enter Try.func15, Try.ntmps15
    go_wp2_with fail
    refine GA.out.mono ?_
    rintro e w1 ⟨rfl, b1⟩
    have B1 := Lib.hid (B0.out.trans (b1.mono B0.out.size))
    clear b1 GA B0
    go_wp2
    go_ret2
    exact E.out _ B1.out

end Go.Proofs.Ytchbccaokoiodaa.Ro
