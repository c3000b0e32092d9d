/- The document's own Sender. -/
import Derived.Test.YtnigbihofebfhaaCkFind
namespace Go.Proofs.Ytnigbihofebfhaa.Ck
open Go.RowKit
open Go.Proofs.Ytnigbihofebfhaa.Ro (E5 z5 eat ent K5 at5 eat_mem mayB mayP)
open Go.Proofs.Ytnigbihofebfhaa.Rw (Rd Ow At)
open Go.Proofs.Ytnigbihofebfhaa.Fl (ret_bool at_bool row_cell row_frozen file)
attribute [local irreducible] Sd.wpSd wpQuiet

set_option maxHeartbeats 4000000 in
theorem rsender_any (w : World) (v : Value) (L : LL) (s : Int) (R : RdL w v L) : Calls Try.prog 9 #[v, .int .i64 s] w (WhoPost w (sN s L) (sE s L)) := by
  obtain ⟨a, cap, rfl, _, hm, hA⟩ := R
  have HA := Lib.hid hA
  have HH : Hid (∀ k i w', Within (snd s) L k i → k < L.length → i < (lat L k).length → snd s k (eat (lat L k) i) = true → Below w.heap.size w w' → WhoPost w (sN s L) (sE s L) (.returned (.tuple #[.int .i64 (k : Int), ent (eat (lat L k) i)])) w') := fun k i w' h hk hi hq b => by
    obtain ⟨e1, e2⟩ := within_hit h hk hi hq
    unfold sN sE
    rw [e1, e2]
    exact ⟨rfl, b⟩
  have HM : Hid (∀ w', Ahead (snd s) L L.length → Below w.heap.size w w' → WhoPost w (sN s L) (sE s L) (.returned (.tuple #[.int .i64 (-1), ent z5])) w') := fun w' h b => by
    obtain ⟨e1, e2⟩ := ahead_end h
    unfold sN sE
    rw [e1, e2]
    exact ⟨rfl, b⟩
  clear hA
  generalize sN s L = rn at *
  generalize sE s L = re at *
  unfold maxLen at hm
  generalize hn : L.length = n at *
  have HN := Lib.hid hn
  clear hn
  have R0 : Hid (RowE (w.alloc (.cells #[.int .i64 0, .int .i64 0, .int .i64 0, .int .i64 0, .int .i64 0] 30)) w.heap.size z5) := heap_alloc_new w _
  have B0 := Lib.hid ((Below.refl w.heap.size w).alloc (Nat.le_refl _) (.cells #[.int .i64 0, .int .i64 0, .int .i64 0, .int .i64 0, .int .i64 0] 30))
  go_enter Try.func9, Try.ntmps9
  go_wp2
  generalize w.alloc (.cells #[.int .i64 0, .int .i64 0, .int .i64 0, .int .i64 0, .int .i64 0] 30) = w0 at *
  go_loopw [6] (fun i wr => ∃ k : Nat, k ≤ n ∧ i = .int .i64 k ∧ Hid (RowE wr w.heap.size z5) ∧ Hid (Below w.heap.size w wr) ∧ Hid (Ahead (snd s) L k)) (fun i _ => n - (intOf i).toNat)
  case atStart => exact ⟨0, Nat.zero_le _, rfl, R0, B0, ahead_zero⟩
  case round =>
    obtain ⟨k, hk, rfl, rr, bw, hs⟩ := hrel
    by_cases hlt : k < n
    · obtain ⟨b, off, rfl, A⟩ := HA.out (by omega)
      obtain ⟨u, c, a', cap', rfl, _, hm', hA'⟩ := A k hlt
      have HC := Lib.hid c
      have HA' := Lib.hid hA'
      have HAA := Lib.hid A
      have HK := Lib.hid (show k < L.length by rw [HN.out]; exact hlt)
      clear hA' c A
      unfold maxLen at hm'
      generalize hl : (lat L k).length = m at *
      have HL := Lib.hid hl
      clear hl
      have W0 := Lib.hid (within_zero hs.out)
      clear hs
      go_wp2
      go_loopw [7] (fun i wr => ∃ j : Nat, j ≤ m ∧ i = .int .i64 j ∧ Hid (RowE wr w.heap.size z5) ∧ Hid (Below w.heap.size w wr) ∧ Hid (Within (snd s) L k j)) (fun i _ => m - (intOf i).toNat)
      case atStart => exact ⟨0, Nat.zero_le _, rfl, rr, bw, W0⟩
      case round =>
        clear rr bw W0
        obtain ⟨j, hj, rfl, rr, bw, hs⟩ := hrel
        have lc : b < w.heap.size := World.block_lt_of_cell? _ _ HC.out
        have c' := (bw.out.cell lc).trans HC.out
        by_cases hjt : j < m
        · obtain ⟨b', off', rfl, A'⟩ := HA'.out (by omega)
          have at0 := at5 A' j (by rw [HL.out]; exact hjt)
          rw [show (lat L k).getD j z5 = eat (lat L k) j from rfl] at at0
          have YES := Lib.hid (fun w' h hb => HH.out k j w' hs.out (by have := HK.out; rw [HN.out] at this; exact this) (by rw [HL.out]; exact hjt) h hb)
          have NO := Lib.hid (fun h => within_next hs.out (by rw [HL.out]; exact hjt) h)
          have PY := fun h1 h2 => snd_yes (s := s) (n := k) (x := eat (lat L k) j) h1 h2
          have PN := fun h => snd_no (s := s) (n := k) (x := eat (lat L k) j) h
          have HAA' := Lib.hid A'
          clear A' hs
          generalize eat (lat L k) j = x at *
          obtain ⟨x1, x2, x3, x4, x5⟩ := x
          simp only at PY PN at0
          generalize snd s k (x1, x2, x3, x4, x5) = q at *
          obtain ⟨i0, i1, i2, i3, i4⟩ := at0
          have l0 : b' < w.heap.size := World.block_lt_of_cell? _ _ i0
          have c0 := (bw.out.cell l0).trans i0
          have c1 : wr.cell? ⟨b', off' + j * 5 + 1, none⟩ = _ := (bw.out.cell l0).trans i1
          have II := Lib.hid (And.intro (And.intro i0 i1) (And.intro (And.intro i2 i3) i4))
          clear i0 i1 i2 i3 i4
          by_cases hq : x1 = 1 ∧ x2 = s
          · have Y := Lib.hid (fun w' hb => YES.out w' (PY hq.1 hq.2) hb)
            have h1 : (x1 == 1) = true := by simpa using hq.1
            have h2 : (x2 == s) = true := by simpa using hq.2
            clear PY PN YES NO hq
            go_upto_region 8 with fail
            clear c0 c1 c' h1 h2
            have C0 : Below w.heap.size w wr.drew := bw.out.drew
            have ne : Nonempty (Sc.In (fun W => Below w.heap.size w W)) := ⟨⟨_, C0⟩⟩
            have k0 := Sc.cell_in (C := fun W => Below w.heap.size w W) (a := ⟨b, off + k, none⟩) (v := .slice (some ⟨b', off', none⟩) m cap') (fun W h => (h.cell lc).trans HC.out)
            have x0 := Sc.cell_in (C := fun W => Below w.heap.size w W) (a := ⟨b', off' + j * 5, none⟩) (v := .int .i64 x1) (fun W h => (h.cell l0).trans II.out.1.1)
            have x1' := Sc.cell_in (C := fun W => Below w.heap.size w W) (a := ⟨b', off' + j * 5 + 1, none⟩) (v := .int .i64 x2) (fun W h => (h.cell l0).trans II.out.1.2)
            have x2' := Sc.cell_in (C := fun W => Below w.heap.size w W) (a := ⟨b', off' + j * 5 + 2, none⟩) (v := .int .i64 x3) (fun W h => (h.cell l0).trans II.out.2.1.1)
            have x3' := Sc.cell_in (C := fun W => Below w.heap.size w W) (a := ⟨b', off' + j * 5 + 3, none⟩) (v := .int .i64 x4) (fun W h => (h.cell l0).trans II.out.2.1.2)
            have x4' := Sc.cell_in (C := fun W => Below w.heap.size w W) (a := ⟨b', off' + j * 5 + 4, none⟩) (v := .int .i64 x5) (fun W h => (h.cell l0).trans II.out.2.2)
            refine Sc.start (fun W => Below w.heap.size w W) [(false, 0), (false, 1), (false, 2), (false, 3), (false, 4), (false, 5), (false, 6), (false, 7), (false, 8), (true, 9)] (by kernel_rfl) (by kernel_rfl) (by kernel_rfl) C0 ?_
            dsimp only [Sd.picks, List.getElem?_cons_succ, List.getElem?_cons_zero]
            iterate 9 (refine Sd.lit ?_; quiet_step (fail); refine wpQuiet_nil ?_)
            refine Sd.call (by rfl) (fun K hK => ?_)
            clear k0 x0 x1' x2' x3' x4' ne
            have R2 : Hid (RowE wr.drew w.heap.size z5) := Lib.hid rr.out
            clear rr bw
            generalize wr.drew = W2 at *
            have d0 : W2.cell? ⟨w.heap.size, 0, none⟩ = some (.int .i64 0) := row_cell R2.out 0
            have d1 : W2.cell? ⟨w.heap.size, 1, none⟩ = some (.int .i64 0) := row_cell R2.out 1
            have d2 : W2.cell? ⟨w.heap.size, 2, none⟩ = some (.int .i64 0) := row_cell R2.out 2
            have d3 : W2.cell? ⟨w.heap.size, 3, none⟩ = some (.int .i64 0) := row_cell R2.out 3
            have d4 : W2.cell? ⟨w.heap.size, 4, none⟩ = some (.int .i64 0) := row_cell R2.out 4
            have f0 : W2.frozen? ⟨w.heap.size, 0, none⟩ = false := row_frozen R2.out 0
            have f1 : W2.frozen? ⟨w.heap.size, 1, none⟩ = false := row_frozen R2.out 1
            have f2 : W2.frozen? ⟨w.heap.size, 2, none⟩ = false := row_frozen R2.out 2
            have f3 : W2.frozen? ⟨w.heap.size, 3, none⟩ = false := row_frozen R2.out 3
            have f4 : W2.frozen? ⟨w.heap.size, 4, none⟩ = false := row_frozen R2.out 4
            have R3 : Hid (RowE (sto5 W2 w.heap.size (x1, x2, x3, x4, x5)) w.heap.size (x1, x2, x3, x4, x5)) := Lib.hid (sto5_row (y := z5) R2.out _)
            have B3 := sto5_below (g := w.heap.size) (x := (x1, x2, x3, x4, x5)) C0 (Nat.le_refl _)
            clear C0 R2
            go_simp
            refine hK _ _ (Sc.Cl.of B3) ?_
            have B4 := Lib.hid B3
            clear hK K d0 d1 d2 d3 d4 f0 f1 f2 f3 f4 B3
            refine Sd.done ?_
            show Exit.then _ _ _ _ (sto5 W2 w.heap.size (x1, x2, x3, x4, x5))
            generalize sto5 W2 w.heap.size (x1, x2, x3, x4, x5) = wS at *
            go_wp2
            (try simp only [Exit.inBlock, Exit.then])
            exact bodyPost_ret (v := .tuple #[.int .i64 (k : Int), ent (x1, x2, x3, x4, x5)]) (results_who (p := 5) (r := 4) rfl _ _ w.heap.size k _ rfl rfl R3.out) rfl (Y.out _ B4.out)
          · have ST := Lib.hid (NO.out (PN hq))
            clear PY PN YES NO
            by_cases h1 : x1 = 1
            · have h2 : (x2 == s) = false := by simpa [h1] using hq
              have h1' : (x1 == 1) = true := by simpa using h1
              clear hq h1
              go_wp2
              go_roundw
              case rel => exact ⟨j + 1, by omega, by go_num, rr, bw, ST⟩
              case measure => simp [intOf]; omega
            · have h1' : (x1 == 1) = false := by simpa using h1
              clear hq h1
              go_wp2
              go_roundw
              case rel => exact ⟨j + 1, by omega, by go_num, rr, bw, ST⟩
              case measure => simp [intOf]; omega
        · obtain rfl : j = m := by omega
          have ST := Lib.hid (within_end (by rw [HL.out]; exact hs.out) HK.out)
          clear hs
          go_wp2
          go_roundw
          case rel => exact ⟨k + 1, by omega, by go_num, rr, bw, ST⟩
          case measure => simp [intOf]; omega
    · obtain rfl : k = n := by omega
      have d0 : wr.cell? ⟨w.heap.size, 0, none⟩ = some (.int .i64 0) := row_cell rr.out 0
      have d1 : wr.cell? ⟨w.heap.size, 1, none⟩ = some (.int .i64 0) := row_cell rr.out 1
      have d2 : wr.cell? ⟨w.heap.size, 2, none⟩ = some (.int .i64 0) := row_cell rr.out 2
      have d3 : wr.cell? ⟨w.heap.size, 3, none⟩ = some (.int .i64 0) := row_cell rr.out 3
      have d4 : wr.cell? ⟨w.heap.size, 4, none⟩ = some (.int .i64 0) := row_cell rr.out 4
      have f0 : wr.frozen? ⟨w.heap.size, 0, none⟩ = false := row_frozen rr.out 0
      have f1 : wr.frozen? ⟨w.heap.size, 1, none⟩ = false := row_frozen rr.out 1
      have f2 : wr.frozen? ⟨w.heap.size, 2, none⟩ = false := row_frozen rr.out 2
      have f3 : wr.frozen? ⟨w.heap.size, 3, none⟩ = false := row_frozen rr.out 3
      have f4 : wr.frozen? ⟨w.heap.size, 4, none⟩ = false := row_frozen rr.out 4
      have R3 : Hid (RowE (sto5 wr w.heap.size z5) w.heap.size z5) := Lib.hid (sto5_row (y := z5) rr.out z5)
      have B3 := Lib.hid (sto5_below (g := w.heap.size) (x := z5) bw.out (Nat.le_refl _))
      have E := Lib.hid (HM.out _ hs.out B3.out)
      go_wp2
      (try simp only [Exit.inBlock, Exit.then])
      exact bodyPost_ret (v := .tuple #[.int .i64 (-1), ent z5]) (results_who (p := 5) (r := 4) rfl _ _ w.heap.size (-1) z5 rfl rfl R3.out) rfl E.out

end Go.Proofs.Ytnigbihofebfhaa.Ck
