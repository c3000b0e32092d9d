/- rodl.Table: the entries of a file, up to its end. -/
import Derived.Test.YtchbccaokoiodaaRoMay
import Derived.Test.YtchbccaokoiodaaRoPut
import Derived.Test.YtchbccaokoiodaaFlGood
namespace Go.Proofs.Ytchbccaokoiodaa.Ro
open Go.RowKit
open Go.Proofs.Ytchbccaokoiodaa.Rw (Rd Ow At)
open Go.Proofs.Ytchbccaokoiodaa.Fl (R4 z4 rec4 K4 okR okL okR_at hdr rat goodF goodFB file ret_bool at_bool at4 row_cell row_frozen)

def TabPost (w : World) (p : Int) (l : List R4) (e : Ending) (w' : World) : Prop := ∃ u, e = .returned (.tuple #[u, .int .i64 (tabN p l)]) ∧ Rd K5 w' u (tabL p l) ∧ Below w.heap.size w w'
/-- What holds at the head of the loop over the records. -/
structure TRel (w : World) (r : List R4) (k : Nat) (u : Value) (L : List E5) (wr : World) : Prop where
  own : Ow K5 wr w.heap.size 23 u L
  red : Read r k L
  bel : Below w.heap.size w wr
theorem at_drop {w : World} {b off : Nat} {l : List R4} (h : At K4 w b off l) : At K4 w b (off + 4) (l.drop 1) := fun i hi j u hu => by
  rw [List.length_drop] at hi
  have e := h (i + 1) (by omega) j u (by rw [← hu]; congr 1; simp [List.getD])
  rw [show off + (i + 1) * K4.n + j = off + 4 + i * K4.n + j by show off + (i + 1) * 4 + j = off + 4 + i * 4 + j; omega] at e
  exact e
theorem at_none {w : World} {b off : Nat} {l : List R4} (h : l.length ≤ 1) : At K4 w b off (l.drop 1) := fun i hi => by rw [List.length_drop] at hi; omega
theorem okL_drop {l : List R4} (h : okL l) (k : Nat) : okL (l.drop k) := fun r hr => h r (List.mem_of_mem_drop hr)
/-- What Table answers when all is read. -/
def TabEnd (w : World) (p : Int) (l : List R4) (L : List E5) : Prop := (mayP L → ∀ u w', Rd K5 w' u L → Below w.heap.size w w' → TabPost w p l (.returned (.tuple #[u, .int .i64 0])) w') ∧ (¬ mayP L → ∀ w', Below w.heap.size w w' → TabPost w p l (.returned (.tuple #[.slice none 0 0, .int .i64 2])) w')
theorem tab_end {w : World} {p : Int} {l : List R4} {L : List E5} (hg : goodF p l) (h : scan (l.drop 1) = some L) : TabEnd w p l L :=
  ⟨fun hm u w' hu hb => by
    have e := tab_yes hg h hm
    exact ⟨u, by rw [e.2], by rw [e.1]; exact hu, hb⟩, fun hm w' hb => by
    have e := tab_no (p := p) h hm
    exact ⟨_, by rw [e.2], by rw [e.1]; exact Rw.Rd.nil _, hb⟩⟩

set_option maxHeartbeats 2000000 in
theorem table_any (w : World) (p : Int) (v : Value) (l : List R4) (R : Rd K4 w v l) (ok : okL l) : Calls Try.prog 13 #[file p v] w (TabPost w p l) := by
  have B0 := Lib.hid ((Below.refl w.heap.size w).alloc (Nat.le_refl _) (.cells #[.int .i64 p, v] 40))
  have R0 := Lib.hid (R.below B0.out)
  have HE : Hid (tabL p l = [] ∧ tabN p l = 2 → ∀ w', Below w.heap.size w w' → TabPost w p l (.returned (.tuple #[.slice none 0 0, .int .i64 2])) w') := Lib.hid (fun h w' hb => ⟨_, by rw [h.2], by rw [h.1]; exact Rw.Rd.nil _, hb⟩)
  clear R
  by_cases hg : goodF p l
  · have GA := Lib.hid (at_bool (show goodFB p l = true from decide_eq_true hg) (Fl.good_any _ p v l R0.out))
    have hl := hg.2.2.1
    have hl2 := hg.2.2.2.1
    have HG := Lib.hid hg
    have OK := Lib.hid ok
    clear hg ok
    obtain ⟨a, cap, rfl, ⟨hc, _⟩, hm, hA⟩ := R0.out
    obtain ⟨b, off, rfl, hA⟩ := hA (by omega)
    have HA := Lib.hid hA
    unfold maxLen at hm
    clear hA R0
    generalize hn : l.length = n at *
    have HN := Lib.hid hn
    clear hn
    unfold file at *
    go_enter Try.func13, Try.ntmps13
    go_wp2_with fail
    refine GA.out.mono ?_
    rintro e w1 ⟨rfl, b1⟩
    have B1 := Lib.hid (B0.out.trans (b1.mono B0.out.size))
    have A1 := Lib.hid (HA.out.below b1)
    have c1 : w1.cell? ⟨w.heap.size, 1, none⟩ = some (.slice (some ⟨b, off, none⟩) n cap) := (b1.cell (by simp)).trans (by go_simp)
    clear b1 GA B0 HA
    have HS : Hid (scan (l.drop 1) = none → ∀ w', Below w.heap.size w w' → TabPost w p l (.returned (.tuple #[.slice none 0 0, .int .i64 2])) w') := Lib.hid (fun h => HE.out (tab_stop h))
    have HT : Hid (∀ L, scan (l.drop 1) = some L → TabEnd w p l L) := Lib.hid (fun L h => tab_end HG.out h)
    have AI : Hid (n ≤ 1 → At K4 w1 b off (l.drop 1)) := Lib.hid (fun h => at_none (by rw [HN.out]; exact h))
    have AR : Hid (At K4 w1 b (off + 4) (l.drop 1)) := Lib.hid (at_drop A1.out)
    have KR : Hid (okL (l.drop 1)) := Lib.hid (okL_drop OK.out 1)
    have LR : Hid ((l.drop 1).length = n - 1) := Lib.hid (by rw [List.length_drop, HN.out])
    clear HE HG OK A1
    have hn1 : n - 1 ≤ 255 := by omega
    generalize l.drop 1 = r at *
    go_wp2
    case' inl =>
      have A2 : Hid (At K4 w1 b off r) := Lib.hid (AI.out (by omega))
      clear AI AR
      generalize off = off2 at *
    case' inr =>
      have A2 := AR
      clear AI AR
      generalize off + 4 = off2 at *
    all_goals
      generalize n - 1 = m at *
      go_loopw [16, 4] (fun i u wr => ∃ (k : Nat) (L : List E5), k ≤ m ∧ i = .int .i64 k ∧ Hid (TRel w1 r k u L wr)) (fun i _ _ => m - (intOf i).toNat)
      case atStart => exact ⟨0, [], Nat.zero_le _, rfl, Lib.hid ⟨Rw.Ow.nil _ _ _, read_start r, Below.refl _ _⟩⟩
      case round =>
        obtain ⟨k, L, hk, rfl, RR⟩ := hrel
        obtain ⟨av, cv, ev, hcv, hmv⟩ := RR.out.own.slice
        have LL : Hid (L.length = k) := Lib.hid RR.out.red.1
        generalize L.length = Ln at ev hcv LL
        subst ev
        by_cases hlt : k < m
        · obtain ⟨c0, c1', c2, c3⟩ := at4 (A2.out.below RR.out.bel) k (by rw [LR.out]; exact hlt)
          have kv := okR_at KR.out k
          have TA := Lib.hid (fun w => take_any w (rat r k) kv)
          have Q1 : Hid (¬ okE (takeX (rat r k)) → scan r = none) := Lib.hid (read_bad RR.out.red (by rw [LR.out]; exact hlt))
          have Q2 : Hid (okE (takeX (rat r k)) → (takeX (rat r k)).1 = 4 → scan r = some L) := Lib.hid (read_end RR.out.red (by rw [LR.out]; exact hlt))
          have Q3 : Hid (okE (takeX (rat r k)) → (takeX (rat r k)).1 ≠ 4 → Read r (k + 1) (L ++ [takeX (rat r k)])) := Lib.hid (read_next RR.out.red (by rw [LR.out]; exact hlt))
          clear kv
          by_cases h1 : okE (takeX (rat r k))
          · have e1 : takeE (rat r k) = takeX (rat r k) := if_pos h1
            have e2 : takeN (rat r k) = 0 := if_pos h1
            rw [e1, e2] at TA
            have P2 := Lib.hid (Q2.out h1)
            have P3 := Lib.hid (Q3.out h1)
            clear e1 e2 Q1 Q2 Q3 h1
            unfold ent rec4 at TA
            generalize takeX (rat r k) = x at *
            generalize rat r k = y at *
            by_cases h4 : x.1 = 4
            · have TE := Lib.hid (HT.out L (P2.out h4))
              clear P2 P3 HS HT
              go_wp2_with fail
              refine (TA.out _).mono ?_
              rintro e w2 ⟨rfl, b2⟩
              have BA := RR.out.bel.alloc RR.out.bel.size (.cells #[.int .u8 y.1, .int .u8 y.2.1, .int .u8 y.2.2.1, .int .u8 y.2.2.2] 25)
              have B2 : Hid (Below w1.heap.size w1 w2) := Lib.hid (BA.trans (b2.mono BA.size))
              have O2 := Lib.hid ((RR.out.own.alloc (.cells #[.int .u8 y.1, .int .u8 y.2.1, .int .u8 y.2.2.1, .int .u8 y.2.2.2] 25)).keep b2)
              have BW : Hid (∀ o, Below w.heap.size w (w2.alloc o)) := Lib.hid (fun o => B1.out.trans ((B2.out.alloc B2.out.size o).mono B1.out.size))
              have RW : Hid (∀ o, Rd K5 (w2.alloc o) (.slice av Ln cv) L) := Lib.hid (fun o => (O2.out.alloc o).rd)
              clear BA b2 B2 O2 RR c0 c1' c2 c3 TA
              by_cases hm : mayP L
              · have E := Lib.hid (TE.out.1 hm)
                have IT := Lib.hid (fun w v R => at_bool (show mayB L = true from decide_eq_true hm) (istable_any w v L R))
                clear TE hm
                go_wp2_with fail
                refine (IT.out _ _ (RW.out _)).mono ?_
                rintro e w4 ⟨rfl, b4⟩
                have E4 := Lib.hid (E.out _ _ (Rw.Rd.below (RW.out _) b4) (Below.trans (BW.out _) (b4.mono (Below.size (BW.out _)))))
                clear b4 E IT
                go_wp2
                go_ret2
                exact E4.out
              · have E := Lib.hid (TE.out.2 hm)
                have IT := Lib.hid (fun w v R => at_bool (show mayB L = false from decide_eq_false hm) (istable_any w v L R))
                clear TE hm
                go_wp2_with fail
                refine (IT.out _ _ (RW.out _)).mono ?_
                rintro e w4 ⟨rfl, b4⟩
                have E4 := Lib.hid (E.out _ (Below.trans (BW.out _) (b4.mono (Below.size (BW.out _)))))
                clear b4 E IT
                go_wp2
                go_ret2
                exact E4.out
            · have PR := Lib.hid (P3.out h4)
              clear P2 P3 HS HT
              go_wp2_with fail
              refine (TA.out _).mono ?_
              rintro e w2 ⟨rfl, b2⟩
              have BA := RR.out.bel.alloc RR.out.bel.size (.cells #[.int .u8 y.1, .int .u8 y.2.1, .int .u8 y.2.2.1, .int .u8 y.2.2.2] 25)
              have B2 : Hid (Below w1.heap.size w1 w2) := Lib.hid (BA.trans (b2.mono BA.size))
              have O2 := Lib.hid ((RR.out.own.alloc (.cells #[.int .u8 y.1, .int .u8 y.2.1, .int .u8 y.2.2.1, .int .u8 y.2.2.2] 25)).keep b2)
              have LN := Lib.hid RR.out.red.1
              have z2 := B2.out.size
              clear BA b2 RR c0 c1' c2 c3 TA
              go_wp2_with (at_builtin; refine Rw.push_step Try.underlying41 infoE rfl (by omega) rfl _ _ rfl w1.heap.size _ _ rfl ((O2.out.alloc _).alloc _) _ x rfl ?d1 ?d2 ?d3 ?_)
              case d1 =>
                intro j u hu
                match j, hu with
                | 0, hu => simp [K5] at hu; subst hu; go_simp
                | 1, hu => simp [K5] at hu; subst hu; go_simp
                | 2, hu => simp [K5] at hu; subst hu; go_simp
                | 3, hu => simp [K5] at hu; subst hu; go_simp
                | 4, hu => simp [K5] at hu; subst hu; go_simp
                | j + 5, hu => simp [K5] at hu
              case d2 => rw [LN.out]; omega
              case d3 => simp; omega
              intro v' w3 o3 b3
              have N3 : Hid (TRel w1 r (k + 1) v' (L ++ [x]) w3) := Lib.hid ⟨o3, PR.out, ((B2.out.alloc z2 _).alloc (by simp; omega) _).trans (b3.mono (Nat.le_refl _))⟩
              obtain ⟨av', cv', ev', _, _⟩ := o3.slice
              generalize (L ++ [x]).length = Ln' at ev'
              subst ev'
              clear o3 b3 O2 B2 PR LN
              go_wp2
              go_roundw
              case rel => exact ⟨k + 1, L ++ [x], by omega, by go_num, N3⟩
              case measure => simp [intOf]; omega
          · have e1 : takeE (rat r k) = z5 := if_neg h1
            have e2 : takeN (rat r k) = 2 := if_neg h1
            rw [e1, e2] at TA
            have E := Lib.hid (HS.out (Q1.out h1))
            clear e1 e2 Q1 Q2 Q3 h1 HS HT
            unfold ent rec4 at TA
            simp only [z5] at TA
            generalize rat r k = y at *
            go_wp2_with fail
            refine (TA.out _).mono ?_
            rintro e w2 ⟨rfl, b2⟩
            have BA := RR.out.bel.alloc RR.out.bel.size (.cells #[.int .u8 y.1, .int .u8 y.2.1, .int .u8 y.2.2.1, .int .u8 y.2.2.2] 25)
            have B2 : Hid (Below w1.heap.size w1 w2) := Lib.hid (BA.trans (b2.mono BA.size))
            have O2 := Lib.hid ((RR.out.own.alloc (.cells #[.int .u8 y.1, .int .u8 y.2.1, .int .u8 y.2.2.1, .int .u8 y.2.2.2] 25)).keep b2)
            have BW : Hid (∀ o, Below w.heap.size w (w2.alloc o)) := Lib.hid (fun o => B1.out.trans ((B2.out.alloc B2.out.size o).mono B1.out.size))
            clear BA b2 B2 O2 RR c0 c1' c2 c3 TA
            go_wp2
            go_ret2
            exact E.out _ (BW.out _)
        · obtain rfl : k = m := by omega
          have TE := Lib.hid (HT.out L (read_all (by rw [LR.out]; exact RR.out.red)))
          have BW : Hid (Below w.heap.size w wr) := Lib.hid (B1.out.trans (RR.out.bel.mono B1.out.size))
          have RW : Hid (Rd K5 wr (.slice av Ln cv) L) := Lib.hid RR.out.own.rd
          clear RR HS HT
          by_cases hm : mayP L
          · have E := Lib.hid (TE.out.1 hm)
            have IT := Lib.hid (fun w v R => at_bool (show mayB L = true from decide_eq_true hm) (istable_any w v L R))
            clear TE hm
            go_wp2_with fail
            refine (IT.out _ _ RW.out).mono ?_
            rintro e w4 ⟨rfl, b4⟩
            have E4 := Lib.hid (E.out _ _ (Rw.Rd.below RW.out b4) (Below.trans BW.out (b4.mono (Below.size BW.out))))
            clear b4 E IT
            go_wp2
            go_ret2
            exact E4.out
          · have E := Lib.hid (TE.out.2 hm)
            have IT := Lib.hid (fun w v R => at_bool (show mayB L = false from decide_eq_false hm) (istable_any w v L R))
            clear TE hm
            go_wp2_with fail
            refine (IT.out _ _ RW.out).mono ?_
            rintro e w4 ⟨rfl, b4⟩
            have E4 := Lib.hid (E.out _ (Below.trans BW.out (b4.mono (Below.size BW.out))))
            clear b4 E IT
            go_wp2
            go_ret2
            exact E4.out
  · have GA := Lib.hid (at_bool (show goodFB p l = false from decide_eq_false hg) (Fl.good_any _ p v l R0.out))
    have E := Lib.hid (HE.out (tab_bad hg))
    clear hg HE ok
    obtain ⟨a, cap, rfl, _, hm, hA⟩ := R0.out
    clear hA R0
    generalize l.length = n at *
    unfold file at *
    go_enter Try.func13, Try.ntmps13
    go_wp2_with fail
    refine GA.out.mono ?_
    rintro e w1 ⟨rfl, b1⟩
    have B1 := Lib.hid (B0.out.trans (b1.mono B0.out.size))
    clear b1 GA B0
    go_wp2
    go_ret2
    exact E.out _ B1.out

end Go.Proofs.Ytchbccaokoiodaa.Ro
