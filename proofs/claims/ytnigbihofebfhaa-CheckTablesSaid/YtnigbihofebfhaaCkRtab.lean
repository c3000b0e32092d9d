/- The document's own Tables. -/
import Derived.Test.YtnigbihofebfhaaCkRef
import Derived.Test.YtnigbihofebfhaaCkCode
import Derived.Test.YtnigbihofebfhaaRoMay
import Derived.Test.YtnigbihofebfhaaSf
namespace Go.Proofs.Ytnigbihofebfhaa.Ck
open Go.RowKit
open Go.Proofs.Ytnigbihofebfhaa.Ro (E5 z5 eat ent K5 at5 eat_mem mayB mayP)
open Go.Proofs.Ytnigbihofebfhaa.Rw (Rd Ow At)
open Go.Proofs.Ytnigbihofebfhaa.Fl (ret_bool at_bool row_cell row_frozen file)
attribute [local irreducible] Sd.wpSd wpQuiet Sf.wpSf

theorem pc_is (L : LL) (n : Nat) (x : E5) : pc L n x = (decide (x.1 = 1) && decide (0 ≤ sN x.2.1 (L.take n))) := by unfold pc; rw [Bool.decide_and]
theorem pg_is (L : LL) (n : Nat) (x : E5) : pg L n x = (decide (x.1 = 2) && decide (sN x.2.1 L < 0)) := by unfold pg; rw [Bool.decide_and]

set_option maxHeartbeats 8000000 in
theorem rtables_any (w : World) (v : Value) (L : LL) (R : RdL w v L) : Calls Try.prog 7 #[v] w (TabPost w L) := by
  have RL := Lib.hid R
  have SC := Lib.hid (fun (W : World) (v' : Value) (M : LL) (s : Int) (r : RdL W v' M) => rsender_any W v' M s r)
  have MA := Lib.hid (fun (W : World) (u : Value) (l : List E5) (r : Rd K5 W u l) => Ro.rmay_any W u l r)
  have TF : Hid (∀ w', 0 ≤ bI L → Below w.heap.size w w' → TabPost w L (.returned (.tuple #[.int .i64 (bI L), .int .i64 2])) w') := fun w' h b => by
    obtain ⟨e1, e2⟩ := t_form h; unfold TabPost; rw [e1, e2]; exact ⟨rfl, b⟩
  have TC : Hid (∀ w', ¬ 0 ≤ bI L → 0 ≤ clN L → Below w.heap.size w w' → TabPost w L (.returned (.tuple #[.int .i64 (clN L), .int .i64 8])) w') := fun w' h h2 b => by
    obtain ⟨e1, e2⟩ := t_clash h h2; unfold TabPost; rw [e1, e2]; exact ⟨rfl, b⟩
  have TG : Hid (∀ w', ¬ 0 ≤ bI L → ¬ 0 ≤ clN L → 0 ≤ gaN L → Below w.heap.size w w' → TabPost w L (.returned (.tuple #[.int .i64 (gaN L), .int .i64 9])) w') := fun w' h h2 h3 b => by
    obtain ⟨e1, e2⟩ := t_gap h h2 h3; unfold TabPost; rw [e1, e2]; exact ⟨rfl, b⟩
  have TO : Hid (∀ w', ¬ 0 ≤ bI L → ¬ 0 ≤ clN L → ¬ 0 ≤ gaN L → Below w.heap.size w w' → TabPost w L (.returned (.tuple #[.int .i64 (-1), .int .i64 0])) w') := fun w' h h2 h3 b => by
    obtain ⟨e1, e2⟩ := t_ok h h2 h3; unfold TabPost; rw [e1, e2]; exact ⟨rfl, b⟩
  have BH : Hid (∀ k, IAhead bad L k → k < L.length → bad (lat L k) = true → bI L = k) := fun k => iahead_hit
  have BE : Hid (IAhead bad L L.length → bI L = -1) := iahead_end
  have BX : Hid (∀ k, IAhead bad L k → k < L.length → bad (lat L k) = false → IAhead bad L (k + 1)) := fun k => iahead_next
  have CH : Hid (∀ k i, Within (pc L) L k i → k < L.length → i < (lat L k).length → pc L k (eat (lat L k) i) = true → clN L = k) := fun k i h1 h2 h3 h4 => (within_hit h1 h2 h3 h4).1
  have CE : Hid (Ahead (pc L) L L.length → clN L = -1) := fun h => (ahead_end h).1
  have GH : Hid (∀ k i, Within (pg L) L k i → k < L.length → i < (lat L k).length → pg L k (eat (lat L k) i) = true → gaN L = k) := fun k i h1 h2 h3 h4 => (within_hit h1 h2 h3 h4).1
  have GE : Hid (Ahead (pg L) L L.length → gaN L = -1) := fun h => (ahead_end h).1
  obtain ⟨a, cap, rfl, ⟨hcap, _⟩, hm, hA⟩ := R
  have HA := Lib.hid hA
  clear hA
  generalize bI L = bn at *
  generalize clN L = cn at *
  generalize gaN L = gn at *
  unfold maxLen at hm
  generalize hn : L.length = n at *
  have HN := Lib.hid hn
  clear hn
  go_enter Try.func7, Try.ntmps7
  go_wp2
  go_loopw [4] (fun i wr => ∃ k : Nat, k ≤ n ∧ i = .int .i64 k ∧ Hid (Below w.heap.size w wr) ∧ Hid (IAhead bad L k)) (fun i _ => n - (intOf i).toNat)
  case atStart => exact ⟨0, Nat.zero_le _, rfl, Below.refl _ _, iahead_zero⟩
  case round =>
    obtain ⟨k, hk, rfl, bw, hs⟩ := hrel
    by_cases hlt : k < n
    · obtain ⟨b, off, rfl, A⟩ := HA.out (by omega)
      obtain ⟨u, c, ru⟩ := A k hlt
      have c' := (bw.out.cell (World.block_lt_of_cell? _ _ c)).trans c
      have M := Lib.hid (MA.out wr u (lat L k) (ru.below bw.out))
      obtain ⟨a', cap', rfl, _⟩ := ru
      have AA := Lib.hid A
      have YES := fun h => BH.out k hs.out hlt h
      have NO := fun h => BX.out k hs.out hlt h
      have hb : bad (lat L k) = !mayB (lat L k) := rfl
      rw [hb] at YES NO
      clear A c hb
      generalize mayB (lat L k) = q at *
      generalize (lat L k).length = m at *
      cases q with
      | true =>
        have N := Lib.hid (NO rfl)
        clear YES NO
        go_wp2_with fail
        refine M.out.mono ?_
        rintro e w1 ⟨rfl, b1⟩
        have B1 := Lib.hid (bw.out.trans (b1.mono bw.out.size))
        clear b1
        go_wp2
        go_roundw
        case rel => exact ⟨k + 1, by omega, by go_num, B1, N⟩
        case measure => simp [intOf]; omega
      | false =>
        have Y := Lib.hid (YES rfl)
        have T := Lib.hid (fun w' hb => TF.out w' (by rw [Y.out]; omega) hb)
        rw [Y.out] at T
        clear YES NO
        go_wp2_with fail
        refine M.out.mono ?_
        rintro e w1 ⟨rfl, b1⟩
        have B1 := Lib.hid (bw.out.trans (b1.mono bw.out.size))
        clear b1
        go_wp2
        go_ret2
        exact T.out _ B1.out
    · obtain rfl : k = n := by omega
      have nb := BE.out hs.out
      have NB := Lib.hid (show ¬ 0 ≤ bn by omega)
      clear nb hs TF BH BE BX
      have B0 := bw
      go_wp2
      go_loopw [5] (fun i wr => ∃ j : Nat, j ≤ k ∧ i = .int .i64 j ∧ Hid (Below w.heap.size w wr) ∧ Hid (Ahead (pc L) L j)) (fun i _ => k - (intOf i).toNat)
      case atStart => exact ⟨0, Nat.zero_le _, rfl, B0, ahead_zero⟩
      case round =>
        clear bw B0 hlt
        obtain ⟨j, hj, rfl, bw, hs⟩ := hrel
        by_cases hlt : j < k
        · obtain ⟨b, off, rfl, A⟩ := HA.out (by omega)
          obtain ⟨u, c, a', cap', rfl, _, hm', hA'⟩ := A j hlt
          have HC := Lib.hid c
          have HA' := Lib.hid hA'
          have HAA := Lib.hid A
          have HJ := Lib.hid (show j < L.length by rw [HN.out]; exact hlt)
          have lc : b < w.heap.size := World.block_lt_of_cell? _ _ c
          have c0 : wr.cell? ⟨b, off + j, none⟩ = _ := (bw.out.cell lc).trans c
          clear hA' c A
          unfold maxLen at hm'
          generalize hl : (lat L j).length = m at *
          have HL := Lib.hid hl
          clear hl
          have W0 := Lib.hid (within_zero hs.out)
          have B1 := bw
          clear hs
          go_wp2
          go_loopw [6] (fun i wr => ∃ i' : Nat, i' ≤ m ∧ i = .int .i64 i' ∧ Hid (Below w.heap.size w wr) ∧ Hid (Within (pc L) L j i')) (fun i _ => m - (intOf i).toNat)
          case atStart => exact ⟨0, Nat.zero_le _, rfl, B1, W0⟩
          case round =>
            clear c0 bw B1 W0
            obtain ⟨i, hi, rfl, bw, hs⟩ := hrel
            have c' : wr.cell? ⟨b, off + j, none⟩ = _ := (bw.out.cell lc).trans HC.out
            by_cases hit : i < m
            · obtain ⟨b', off', rfl, A'⟩ := HA'.out (by omega)
              have at0 := at5 A' i (by rw [HL.out]; exact hit)
              rw [show (lat L j).getD i z5 = eat (lat L j) i from rfl] at at0
              have YES := Lib.hid (fun h => CH.out j i hs.out (by have := HJ.out; rw [HN.out] at this; exact this) (by rw [HL.out]; exact hit) h)
              have NO := Lib.hid (fun h => within_next hs.out (by rw [HL.out]; exact hit) h)
              have PI := pc_is L j (eat (lat L j) i)
              have HAA' := Lib.hid A'
              clear A' hs
              generalize eat (lat L j) i = x at *
              have SJ := Lib.hid (fun W hb => SC.out W (.slice (some ⟨b, off, none⟩) j cap) (L.take j) x.2.1 ((RL.out.below (w' := W) hb).take (by rw [HN.out]; omega)))
              obtain ⟨x1, x2, x3, x4, x5⟩ := x
              simp only at PI at0 SJ
              generalize pc L j (x1, x2, x3, x4, x5) = q at *
              generalize sN x2 (L.take j) = sn at *
              generalize sE x2 (L.take j) = se at *
              obtain ⟨i0, i1, _, _, _⟩ := at0
              have l0 : b' < w.heap.size := World.block_lt_of_cell? _ _ i0
              have k0 : wr.cell? ⟨b', off' + i * 5, none⟩ = _ := (bw.out.cell l0).trans i0
              have k1 : wr.cell? ⟨b', off' + i * 5 + 1, none⟩ = _ := (bw.out.cell l0).trans i1
              have I0 := Lib.hid i0
              have P := Lib.hid PI
              have hjc : j ≤ cap := by omega
              clear PI i0 i1 k0
              go_upto_region 12 with fail
              replace c' := Sd.cell_by c'
              replace k1 := Sd.cell_by k1
              refine Sf.start [(0, 0), (0, 1), (0, 2), (0, 3), (0, 4), (0, 5), (0, 6), (0, 7), (0, 8), (0, 9), (0, 10), (1, 11), (0, 12), (0, 13), (0, 14), (2, 15), (0, 16), (1, 17)] [⟨15, 8, #[.int .i64 0, .int .i64 0, .int .i64 0, .int .i64 0, .int .i64 0], 30⟩] (by kernel_rfl) (by kernel_rfl) (by kernel_rfl) (by decide) (by decide) ?_ ?_ ?_
              · simp
              · intro f hf
                simp only [List.mem_cons, List.not_mem_nil, or_false] at hf
                subst hf
                exact ⟨_, rfl, rfl, rfl, fun ρ w => by go_simp⟩
              dsimp only [Sf.picks, List.getElem?_cons_succ, List.getElem?_cons_zero]
              have BW := Lib.hid ((Below.refl wr.heap.size wr).drew)
              repeat (refine Sf.lit (fun xs => ?_); simp only [Sf.fill, List.foldl_cons, List.foldl_nil]; quiet_step (fail); refine wpQuiet_nil ?_)
              refine Sf.call (fun xs w3 hb hc => ⟨by rfl, fun K hK => ?_⟩)
              have B3 := Lib.hid (BW.out.trans (hb.mono BW.out.size))
              clear hb hc BW
              simp only [Sf.fill, List.foldl_cons, List.foldl_nil]
              go_simp
              refine (SJ.out w3 (bw.out.trans (B3.out.mono bw.out.size))).mono ?_
              rintro e4 w4 ⟨rfl, b4⟩
              have B4 := Lib.hid (B3.out.trans (b4.mono B3.out.size))
              refine hK _ _ (Sd.Cl.of B4.out) b4.size (fun _ => b4) ?_
              clear hK K b4 B3
              unfold ent
              repeat (refine Sf.lit (fun xs => ?_); simp only [Sf.fill, List.foldl_cons, List.foldl_nil]; quiet_step (fail); refine wpQuiet_nil ?_)
              refine Sf.meet (fun g7 w7 hb hc row n7 hH hL => ?_)
              have B7 := Lib.hid (B4.out.trans (hb.mono B4.out.size))
              have R7 : Hid (RowE w7 g7 z5) := row
              clear hb hc row hH hL B4
              repeat (refine Sf.lit (fun xs => ?_); simp only [Sf.fill, List.foldl_nil]; quiet_step (fail); refine wpQuiet_nil ?_)
              refine Sf.call (fun xs w9 hb hc => ⟨by rfl, fun K hK => ?_⟩)
              have B9 := Lib.hid (B7.out.trans (hb.mono B7.out.size))
              have R9 := Lib.hid (R7.out.below hb R7.out.lt)
              have d0 : w9.cell? ⟨g7, 0, none⟩ = some (.int .i64 0) := row_cell R9.out 0
              have d1 : w9.cell? ⟨g7, 1, none⟩ = some (.int .i64 0) := row_cell R9.out 1
              have d2 : w9.cell? ⟨g7, 2, none⟩ = some (.int .i64 0) := row_cell R9.out 2
              have d3 : w9.cell? ⟨g7, 3, none⟩ = some (.int .i64 0) := row_cell R9.out 3
              have d4 : w9.cell? ⟨g7, 4, none⟩ = some (.int .i64 0) := row_cell R9.out 4
              have f0 : w9.frozen? ⟨g7, 0, none⟩ = false := row_frozen R9.out 0
              have f1 : w9.frozen? ⟨g7, 1, none⟩ = false := row_frozen R9.out 1
              have f2 : w9.frozen? ⟨g7, 2, none⟩ = false := row_frozen R9.out 2
              have f3 : w9.frozen? ⟨g7, 3, none⟩ = false := row_frozen R9.out 3
              have f4 : w9.frozen? ⟨g7, 4, none⟩ = false := row_frozen R9.out 4
              have BA := sto5_below (g := g7) (x := se) B9.out n7
              have hsz := sto5_size w9 g7 se
              clear hb hc B7 R7 R9
              simp only [Sf.fill, List.foldl_nil]
              go_simp
              refine hK _ _ (Sd.Cl.of BA) (by rw [← hsz]; exact Nat.le_refl _) (fun h => absurd rfl h) ?_
              clear hK K d0 d1 d2 d3 d4 f0 f1 f2 f3 f4 hsz
              show Sf.wpSf _ _ _ _ _ _ _ _ _ _ (sto5 w9 g7 se)
              have B10 := Lib.hid (bw.out.trans (BA.mono bw.out.size))
              clear BA c' k1 B9
              generalize sto5 w9 g7 se = wA at *
              refine Sf.done (fun wB hb hc => ?_)
              have BB := Lib.hid (B10.out.trans (hb.mono B10.out.size))
              clear hb hc B10 n7 SJ bw
              have c' : wB.cell? ⟨b, off + j, none⟩ = _ := (BB.out.cell lc).trans HC.out
              have k0 : wB.cell? ⟨b', off' + i * 5, none⟩ = _ := (BB.out.cell l0).trans I0.out
              by_cases h1 : x1 = 1
              · by_cases h2 : 0 ≤ sn
                · have Y := YES.out (by rw [P.out, decide_eq_true h1, decide_eq_true h2]; rfl)
                  have T := Lib.hid (fun w' hb => TC.out w' NB.out (by rw [Y]; omega) hb)
                  rw [Y] at T
                  have h1' : (x1 == 1) = true := by simpa using h1
                  have h2' : decide (0 ≤ sn) = true := decide_eq_true h2
                  clear Y YES NO P h1 h2
                  go_wp2
                  go_ret2
                  exact T.out _ BB.out
                · have ST := Lib.hid (NO.out (by rw [P.out, decide_eq_false h2, Bool.and_false]))
                  have h1' : (x1 == 1) = true := by simpa using h1
                  have h2' : decide (0 ≤ sn) = false := decide_eq_false h2
                  clear YES NO P h1 h2
                  go_wp2
                  go_roundw
                  case rel => exact ⟨i + 1, by omega, by go_num, BB, ST⟩
                  case measure => simp [intOf]; omega
              · have ST := Lib.hid (NO.out (by rw [P.out, decide_eq_false h1, Bool.false_and]))
                have h1' : (x1 == 1) = false := by simpa using h1
                clear YES NO P h1
                go_wp2
                go_roundw
                case rel => exact ⟨i + 1, by omega, by go_num, BB, ST⟩
                case measure => simp [intOf]; omega
            · obtain rfl : i = m := by omega
              have ST := Lib.hid (within_end (by rw [HL.out]; exact hs.out) HJ.out)
              clear hs
              go_wp2
              go_roundw
              case rel => exact ⟨j + 1, by omega, by go_num, bw, ST⟩
              case measure => simp [intOf]; omega
        · obtain rfl : j = k := by omega
          have nc := CE.out hs.out
          have NC := Lib.hid (show ¬ 0 ≤ cn by omega)
          clear nc hs TC CH CE
          have B0 := bw
          go_wp2
          go_loopw [9] (fun i wr => ∃ k : Nat, k ≤ j ∧ i = .int .i64 k ∧ Hid (Below w.heap.size w wr) ∧ Hid (Ahead (pg L) L k)) (fun i _ => j - (intOf i).toNat)
          case atStart => exact ⟨0, Nat.zero_le _, rfl, B0, ahead_zero⟩
          case round =>
            clear bw B0 hlt
            obtain ⟨k, hk, rfl, bw, hs⟩ := hrel
            by_cases hlt : k < j
            · obtain ⟨b, off, rfl, A⟩ := HA.out (by omega)
              obtain ⟨u, c, a', cap', rfl, _, hm', hA'⟩ := A k hlt
              have HC := Lib.hid c
              have HA' := Lib.hid hA'
              have HAA := Lib.hid A
              have HJ := Lib.hid (show k < L.length by rw [HN.out]; exact hlt)
              have lc : b < w.heap.size := World.block_lt_of_cell? _ _ c
              have c0 : wr.cell? ⟨b, off + k, none⟩ = _ := (bw.out.cell lc).trans c
              clear hA' c A
              unfold maxLen at hm'
              generalize hl : (lat L k).length = m at *
              have HL := Lib.hid hl
              clear hl
              have W0 := Lib.hid (within_zero hs.out)
              have B1 := bw
              clear hs
              go_wp2
              go_loopw [10] (fun i wr => ∃ i' : Nat, i' ≤ m ∧ i = .int .i64 i' ∧ Hid (Below w.heap.size w wr) ∧ Hid (Within (pg L) L k i')) (fun i _ => m - (intOf i).toNat)
              case atStart => exact ⟨0, Nat.zero_le _, rfl, B1, W0⟩
              case round =>
                clear c0 bw B1 W0
                obtain ⟨i, hi, rfl, bw, hs⟩ := hrel
                have c' : wr.cell? ⟨b, off + k, none⟩ = _ := (bw.out.cell lc).trans HC.out
                by_cases hit : i < m
                · obtain ⟨b', off', rfl, A'⟩ := HA'.out (by omega)
                  have at0 := at5 A' i (by rw [HL.out]; exact hit)
                  rw [show (lat L k).getD i z5 = eat (lat L k) i from rfl] at at0
                  have YES := Lib.hid (fun h => GH.out k i hs.out (by have := HJ.out; rw [HN.out] at this; exact this) (by rw [HL.out]; exact hit) h)
                  have NO := Lib.hid (fun h => within_next hs.out (by rw [HL.out]; exact hit) h)
                  have PI := pg_is L k (eat (lat L k) i)
                  have HAA' := Lib.hid A'
                  clear A' hs
                  generalize eat (lat L k) i = x at *
                  have SJ := Lib.hid (SC.out wr (.slice (some ⟨b, off, none⟩) j cap) L x.2.1 (RL.out.below bw.out))
                  obtain ⟨x1, x2, x3, x4, x5⟩ := x
                  simp only at PI at0 SJ
                  generalize pg L k (x1, x2, x3, x4, x5) = q at *
                  generalize sN x2 L = sn at *
                  generalize sE x2 L = se at *
                  obtain ⟨i0, i1, _, _, _⟩ := at0
                  have l0 : b' < w.heap.size := World.block_lt_of_cell? _ _ i0
                  have k1 : wr.cell? ⟨b', off' + i * 5 + 1, none⟩ = _ := (bw.out.cell l0).trans i1
                  have I0 := Lib.hid i0
                  have P := Lib.hid PI
                  clear PI i0 i1
                  unfold WhoPost ent at SJ
                  go_wp2_with fail
                  refine SJ.out.mono ?_
                  rintro e4 w4 ⟨rfl, b4⟩
                  have bb := b4.alloc b4.size (.cells #[.int .i64 se.1, .int .i64 se.2.1, .int .i64 se.2.2.1, .int .i64 se.2.2.2.1, .int .i64 se.2.2.2.2] 30)
                  have BB := Lib.hid (bw.out.trans (bb.mono bw.out.size))
                  clear b4 bb SJ bw c' k1
                  go_upto_region 22 with fail
                  generalize w4.alloc (.cells #[.int .i64 se.1, .int .i64 se.2.1, .int .i64 se.2.2.1, .int .i64 se.2.2.2.1, .int .i64 se.2.2.2.2] 30) = wB at *
                  have c' : wB.cell? ⟨b, off + k, none⟩ = _ := (BB.out.cell lc).trans HC.out
                  have k0 : wB.cell? ⟨b', off' + i * 5, none⟩ = _ := (BB.out.cell l0).trans I0.out
                  by_cases h1 : x1 = 2
                  · by_cases h2 : sn < 0
                    · have Y := YES.out (by rw [P.out, decide_eq_true h1, decide_eq_true h2]; rfl)
                      have T := Lib.hid (fun w' hb => TG.out w' NB.out NC.out (by rw [Y]; omega) hb)
                      rw [Y] at T
                      have h1' : (x1 == 2) = true := by simpa using h1
                      have h2' : decide (sn < 0) = true := decide_eq_true h2
                      clear Y YES NO P h1 h2
                      go_wp2
                      go_ret2
                      exact T.out _ BB.out
                    · have ST := Lib.hid (NO.out (by rw [P.out, decide_eq_false h2, Bool.and_false]))
                      have h1' : (x1 == 2) = true := by simpa using h1
                      have h2' : decide (sn < 0) = false := decide_eq_false h2
                      clear YES NO P h1 h2
                      go_wp2
                      go_roundw
                      case rel => exact ⟨i + 1, by omega, by go_num, BB, ST⟩
                      case measure => simp [intOf]; omega
                  · have ST := Lib.hid (NO.out (by rw [P.out, decide_eq_false h1, Bool.false_and]))
                    have h1' : (x1 == 2) = false := by simpa using h1
                    clear YES NO P h1
                    go_wp2
                    go_roundw
                    case rel => exact ⟨i + 1, by omega, by go_num, BB, ST⟩
                    case measure => simp [intOf]; omega
                · obtain rfl : i = m := by omega
                  have ST := Lib.hid (within_end (by rw [HL.out]; exact hs.out) HJ.out)
                  clear hs
                  go_wp2
                  go_roundw
                  case rel => exact ⟨k + 1, by omega, by go_num, bw, ST⟩
                  case measure => simp [intOf]; omega
            · obtain rfl : k = j := by omega
              have ng := GE.out hs.out
              have T := Lib.hid (fun w' hb => TO.out w' NB.out NC.out (by omega) hb)
              go_wp2
              go_ret2
              exact T.out _ bw.out

end Go.Proofs.Ytnigbihofebfhaa.Ck
