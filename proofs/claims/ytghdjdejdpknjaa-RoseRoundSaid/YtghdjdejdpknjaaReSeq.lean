/- rose.Sequence: the sequence of a file. -/
import Derived.Test.YtghdjdejdpknjaaReFile
import Derived.Test.YtghdjdejdpknjaaFlGood
import Derived.Test.YtghdjdejdpknjaaFlSame
namespace Go.Proofs.Ytghdjdejdpknjaa.Re
open Go.RowKit
open Go.Proofs.Ytghdjdejdpknjaa.Rw (Rd Ow At)
open Go.Proofs.Ytghdjdejdpknjaa.Fl (R4 z4 rec4 K4 okR okL okR_at hdr rat goodF goodFB file ret_bool at_bool at4 row_cell row_frozen sameF)

/-- What holds at the head of the loop over the records. -/
structure TRel (w1 : World) (L : List Int) (k : Nat) (u : Value) (wr : World) : Prop where
  own : Ow KI wr w1.heap.size 3 u (L.take k)
  bel : Below w1.heap.size w1 wr
theorem at_drop {w : World} {b off : Nat} {l : List R4} (h : At K4 w b off l) : At K4 w b (off + 4) (l.drop 1) := fun i hi j u hu => by
  rw [List.length_drop] at hi
  have e := h (i + 1) (by omega) j u (by rw [← hu]; congr 1; simp [List.getD])
  rw [show off + (i + 1) * K4.n + j = off + 4 + i * K4.n + j by show off + (i + 1) * 4 + j = off + 4 + i * 4 + j; omega] at e
  exact e
theorem at_none {w : World} {b off : Nat} {l : List R4} (h : l.length ≤ 1) : At K4 w b off (l.drop 1) := fun i hi => by rw [List.length_drop] at hi; omega
theorem okL_drop {l : List R4} (h : okL l) (k : Nat) : okL (l.drop k) := fun r hr => h r (List.mem_of_mem_drop hr)
theorem rat_drop (l : List R4) (k : Nat) : rat (l.drop 1) k = rat l (k + 1) := by unfold rat; simp only [List.getD_eq_getElem?_getD, List.getElem?_drop]; rw [Nat.add_comm 1 k]

set_option maxHeartbeats 2000000 in
theorem sequence_any (w : World) (p : Int) (v : Value) (l : List R4) (R : Rd K4 w v l) (ok : okL l) : Calls Try.prog 8 #[file p v] w (SeqPost w p l) := by
  have B0 := Lib.hid ((Below.refl w.heap.size w).alloc (Nat.le_refl _) (.cells #[.int .i64 p, v] 25))
  have R0 := Lib.hid (R.below B0.out)
  clear R
  by_cases hg : goodF p l
  · have GA := Lib.hid (at_bool (show goodFB p l = true from decide_eq_true hg) (Fl.good_any _ p v l R0.out))
    have hl := hg.2.2.1
    have hl2 := hg.2.2.2.1
    have HG := Lib.hid hg
    have OK := Lib.hid ok
    clear hg ok
    have SA := Lib.hid (fun w v' l' R R' => Fl.same_any w p 3 v v' l l' R R')
    obtain ⟨a, cap, rfl, ⟨hc, _⟩, hm, hA⟩ := R0.out
    obtain ⟨b, off, rfl, hA⟩ := hA (by omega)
    have HA := Lib.hid hA
    unfold maxLen at hm
    clear hA
    have FA := Lib.hid (fun w v R => file_any w v (takL l) R)
    have YES := Lib.hid (fun h u w' => sq_yes (w := w) (p := p) (l := l) (w' := w') h u)
    have NO := Lib.hid (fun h w' => sq_no (w := w) (p := p) (l := l) (w' := w') h)
    have RN : Hid (∀ k, k + 1 < l.length → (takL l).take k ++ [(rat (l.drop 1) k).1] = (takL l).take (k + 1)) := Lib.hid (fun k h => by rw [rat_drop]; exact tak_next h)
    have RA : Hid ((takL l).take (l.length - 1) = takL l) := Lib.hid (by rw [← tak_len, List.take_length])
    have RL : Hid (∀ k, k ≤ l.length - 1 → ((takL l).take k).length = k) := Lib.hid (fun k h => by rw [List.length_take, tak_len]; omega)
    have IS : Hid (isS p l ↔ seqP (takL l) ∧ (p = 3 ∧ l = fileL (takL l))) := Lib.hid ⟨fun h => h.2, fun h => ⟨HG.out, h⟩⟩
    generalize hn : l.length = n at *
    have HN := Lib.hid hn
    clear hn
    unfold file at *
    go_enter Try.func8, Try.ntmps8
    go_wp2_with fail
    refine GA.out.mono ?_
    rintro e w1 ⟨rfl, b1⟩
    have B1 := Lib.hid (B0.out.trans (b1.mono B0.out.size))
    have A1 := Lib.hid (HA.out.below b1)
    have R1 := Lib.hid (R0.out.below b1)
    have X1 : w1.heap[w.heap.size]? = some (.cells #[.int .i64 p, .slice (some ⟨b, off, none⟩) n cap] 25 (0, 0)) := (b1.block _ (by simp)).trans (heap_alloc_new w _)
    have c1 : w1.cell? ⟨w.heap.size, 1, none⟩ = some (.slice (some ⟨b, off, none⟩) n cap) := row_cell X1 1
    have Y1 := Lib.hid X1
    clear b1 GA B0 HA R0 X1
    have AI : Hid (n ≤ 1 → At K4 w1 b off (l.drop 1)) := Lib.hid (fun h => at_none (by rw [HN.out]; exact h))
    have AR : Hid (At K4 w1 b (off + 4) (l.drop 1)) := Lib.hid (at_drop A1.out)
    have KR : Hid (okL (l.drop 1)) := Lib.hid (okL_drop OK.out 1)
    have LR : Hid ((l.drop 1).length = n - 1) := Lib.hid (by rw [List.length_drop, HN.out])
    clear HG OK A1
    have hn1 : n - 1 ≤ 255 := by omega
    have RN2 : Hid (∀ k, k < n - 1 → (takL l).take k ++ [(rat (l.drop 1) k).1] = (takL l).take (k + 1)) := Lib.hid (fun k h => RN.out k (by omega))
    clear RN
    generalize l.drop 1 = r at *
    generalize takL l = L at *
    go_wp2
    case' inl =>
      have A2 : Hid (At K4 w1 b off r) := Lib.hid (AI.out (by omega))
      clear AI AR
    case' inr =>
      have A2 := AR
      clear AI AR
      generalize off + 4 = off2 at *
    all_goals
      generalize n - 1 = m at *
      clear c1
      go_loopw [16, 4] (fun i u wr => ∃ (k : Nat), k ≤ m ∧ i = .int .i64 k ∧ Hid (TRel w1 L k u wr)) (fun i _ _ => m - (intOf i).toNat)
      case atStart => exact ⟨0, Nat.zero_le _, rfl, Lib.hid ⟨by rw [List.take_zero]; exact Rw.Ow.nil _ _ _, Below.refl _ _⟩⟩
      case round =>
        obtain ⟨k, hk, rfl, RR⟩ := hrel
        obtain ⟨av, cv, ev, hcv, hmv⟩ := RR.out.own.slice
        rw [RL.out k hk] at ev hcv
        subst ev
        by_cases hlt : k < m
        · obtain ⟨c0, c1', c2, c3⟩ := at4 (A2.out.below RR.out.bel) k (by rw [LR.out]; exact hlt)
          have kv := (okR_at KR.out k).1
          have RX := Lib.hid (RN2.out k hlt)
          have RK := Lib.hid (RL.out k hk)
          generalize rat r k = y at *
          have W0 : IntKind.i64.wrap y.1 = y.1 := IntWalk.i64_in _ (by omega)
          have zb := RR.out.bel.size
          go_wp2_with (at_builtin; refine Rw.push_step Try.underlying22 infoI rfl (by omega) rfl _ _ rfl w1.heap.size _ _ rfl ((RR.out.own.alloc _).alloc _) _ y.1 rfl ?d1 ?d2 ?d3 ?_)
          case d1 =>
            intro j u hu
            match j, hu with
            | 0, hu => simp [KI, Rw.int] at hu; subst hu; rw [addr_zero]; go_simp
          case d2 => rw [RK.out]; omega
          case d3 => simp; omega
          intro v' w3 o3 b3
          rw [RX.out] at o3
          have N3 : Hid (TRel w1 L (k + 1) v' w3) := Lib.hid ⟨o3, ((RR.out.bel.alloc zb _).alloc (by simp; omega) _).trans (b3.mono (Nat.le_refl _))⟩
          obtain ⟨av', cv', ev', _, _⟩ := o3.slice
          rw [RL.out _ (by omega)] at ev'
          subst ev'
          clear o3 b3 RR RX RK kv
          go_wp2
          go_roundw
          case rel => exact ⟨k + 1, by omega, by go_num, N3⟩
          case measure => simp [intOf]; omega
        · obtain rfl : k = m := by omega
          have O2 := RR.out.own
          rw [RA.out] at O2
          have RL2 := Lib.hid O2.rd
          have BW : Hid (Below w.heap.size w wr) := Lib.hid (B1.out.trans (RR.out.bel.mono B1.out.size))
          have RF := Lib.hid (R1.out.below RR.out.bel)
          have XF := (RR.out.bel.block _ (lt_of_block Y1.out)).trans Y1.out
          clear RR O2 RN2 RL RA A2 KR LR R1 Y1 B1
          unfold FilePost file at FA
          go_wp2_with fail
          refine (FA.out _ _ RL2.out).mono ?_
          rintro e w4 ⟨u4, rfl, r4, b4⟩
          obtain ⟨a4, n4, k4, rfl⟩ : ∃ a n c, u4 = .slice a n c := by obtain ⟨a, c, e, _⟩ := r4; exact ⟨a, _, c, e⟩
          have B4 := Lib.hid (BW.out.trans (b4.mono BW.out.size))
          have RF4 := Lib.hid (RF.out.below b4)
          have RL4 := Lib.hid (RL2.out.below b4)
          have X4 := (b4.block _ (lt_of_block XF)).trans XF
          have r4h := Lib.hid r4
          have BB : Hid (Below w4.heap.size w4 (w4.alloc (.cells #[.int .i64 (fP L), .slice a4 n4 k4] 25))) := Lib.hid ((Below.refl _ _).alloc (Nat.le_refl _) _)
          have B5 := Lib.hid (B4.out.trans (BB.out.mono B4.out.size))
          have RF5 := Lib.hid (RF4.out.below BB.out)
          have RL5 := Lib.hid (RL4.out.below BB.out)
          have RU5 := Lib.hid (r4.below BB.out)
          have X5 := (BB.out.block _ (lt_of_block X4)).trans X4
          have Y5 := heap_alloc_new w4 (.cells #[.int .i64 (fP L), .slice a4 n4 k4] 25)
          clear b4 BW RF RL2 XF r4 r4h FA BB B4 RF4 RL4 X4
          by_cases hs : seqP L
          · have e1 : fP L = 3 := if_pos hs
            have e2 : fN L = 0 := if_pos hs
            have e3 : fL L = fileL L := if_pos hs
            rw [e1] at B5 RF5 RL5 RU5 X5 Y5 ⊢
            rw [e3] at RU5
            rw [e2]
            clear e1 e2 e3
            by_cases hq : p = 3 ∧ l = fileL L
            · have E := Lib.hid (YES.out (IS.out.2 ⟨hs, hq⟩))
              have S4 := Lib.hid (fun w v' R R' => at_bool (show sameF p l 3 (fileL L) = true from decide_eq_true hq) (SA.out w v' (fileL L) R R'))
              clear YES NO IS SA hs hq
              go_upto_region 10 with fail
              (try (rename cap = 1 => hc1; subst hc1))
              generalize w4.alloc (.cells #[.int .i64 3, .slice a4 n4 k4] 25) = W at *
              generalize w4.heap.size = gF at *
              have d0 : W.cell? ⟨w.heap.size, 0, none⟩ = some (.int .i64 p) := row_cell X5 0
              have d1 : W.cell? ⟨w.heap.size, 1, none⟩ = some (.slice (some ⟨b, off, none⟩) n _) := row_cell X5 1
              have e0 : W.cell? ⟨gF, 0, none⟩ = some (.int .i64 3) := row_cell Y5 0
              have e1 : W.cell? ⟨gF, 1, none⟩ = some (.slice a4 n4 k4) := row_cell Y5 1
              go_wp2_with fail
              refine (S4.out _ _ RF5.out RU5.out).mono ?_
              rintro e w6 ⟨rfl, b6⟩
              have E6 := Lib.hid (E.out _ _ (RL5.out.below b6) (B5.out.trans (b6.mono B5.out.size)))
              clear b6 S4 d0 d1 e0 e1
              go_wp2
              go_ret2
              exact E6.out
            · have E := Lib.hid (NO.out (fun h => hq (IS.out.1 h).2))
              have S4 := Lib.hid (fun w v' R R' => at_bool (show sameF p l 3 (fileL L) = false from decide_eq_false hq) (SA.out w v' (fileL L) R R'))
              clear YES NO IS SA hs hq
              go_upto_region 10 with fail
              (try (rename cap = 1 => hc1; subst hc1))
              generalize w4.alloc (.cells #[.int .i64 3, .slice a4 n4 k4] 25) = W at *
              generalize w4.heap.size = gF at *
              have d0 : W.cell? ⟨w.heap.size, 0, none⟩ = some (.int .i64 p) := row_cell X5 0
              have d1 : W.cell? ⟨w.heap.size, 1, none⟩ = some (.slice (some ⟨b, off, none⟩) n _) := row_cell X5 1
              have e0 : W.cell? ⟨gF, 0, none⟩ = some (.int .i64 3) := row_cell Y5 0
              have e1 : W.cell? ⟨gF, 1, none⟩ = some (.slice a4 n4 k4) := row_cell Y5 1
              go_wp2_with fail
              refine (S4.out _ _ RF5.out RU5.out).mono ?_
              rintro e w6 ⟨rfl, b6⟩
              have E6 := Lib.hid (E.out _ (B5.out.trans (b6.mono B5.out.size)))
              clear b6 S4 d0 d1 e0 e1
              go_wp2
              go_ret2
              exact E6.out
          · have e2 : fN L = 1 := if_neg hs
            rw [e2]
            have E := Lib.hid (NO.out (fun h => hs (IS.out.1 h).1))
            clear YES NO IS SA hs e2 RU5 RL5 RF5 X5 Y5
            go_wp2
            go_ret2
            exact E.out _ B5.out
  · have GA := Lib.hid (at_bool (show goodFB p l = false from decide_eq_false hg) (Fl.good_any _ p v l R0.out))
    have E := Lib.hid (fun w' => sq_no (w := w) (p := p) (l := l) (w' := w') (fun h => hg h.1))
    clear hg ok
    obtain ⟨a, cap, rfl, _, hm, hA⟩ := R0.out
    clear hA R0
    generalize l.length = n at *
    unfold file at *
    go_enter Try.func8, Try.ntmps8
    go_wp2_with fail
    refine GA.out.mono ?_
    rintro e w1 ⟨rfl, b1⟩
    have B1 := Lib.hid (B0.out.trans (b1.mono B0.out.size))
    clear b1 GA B0
    go_wp2
    go_ret2
    exact E.out _ B1.out

end Go.Proofs.Ytghdjdejdpknjaa.Re
