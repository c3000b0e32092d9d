/- IfsDoes, walked. -/
import Derived.Test.YtoeemngekioldaaDoorFsDeeds
import Derived.Test.YtoeemngekioldaaDoorSc
import Derived.Test.YtoeemngekioldaaDoorQb
namespace Go.Proofs.YtoeemngekioldaaDoor.Fs
open Go.RowKit Go.Maps
open Go.Proofs.YtoeemngekioldaaDoor.Fl (R4 z4 K4 rec4 rat goodF goodFB okR okL file arr4 row_cell row_frozen eq_rec okL_take ret_bool)
open Go.Proofs.YtoeemngekioldaaDoor.Rw (Rd Ow At)
set_option maxRecDepth 100000
attribute [local irreducible] Sd.wpSd wpQuiet

set_option maxHeartbeats 8000000 in
theorem does_any {w : World} (hg : Glob w) {v : Value} {L : List De} (R : Rd KD w v L) (ok : ∀ D ∈ L, D.Ok w) : Calls Tryd.prog 3 #[v] w fun e w' => e = .returned (.bool true) ∧ Below w.heap.size w w' := by
  obtain ⟨va, vc, rfl, _, _, h3⟩ := R
  have H3 := Lib.hid h3
  have OK := Lib.hid ok
  have HG := Lib.hid hg
  clear h3 ok hg
  generalize hn : L.length = N at *
  have HN := Lib.hid hn
  clear hn
  have D0 := Lib.hid (dd_new w)
  go_enter Tryd.func3, Tryd.ntmps3
  go_wp2_with (go_at_call 6; refine (new_any _).mono ?_; rintro e w1 ⟨rfl, rfl⟩)
  go_wp2_with fail
  generalize ((w.alloc (.cells #[.map none, .int .i64 0] 61)).alloc (.cells #[.slice none 0 0, .int .i64 0] 28)) = W0 at *
  generalize w.heap.size + 1 = r at *
  generalize hs : w.heap.size = s at *
  go_loopw [5] (fun i wr => ∃ k : Nat, k ≤ N ∧ k ≤ 40 ∧ i = .int .i64 k ∧ Hid (∃ F A d, 0 ≤ d ∧ d ≤ (k : Int) ∧ Dd w s r F A d A d wr)) (fun i _ => 40 - (intOf i).toNat)
  case atStart => exact ⟨0, Nat.zero_le _, Nat.zero_le _, rfl, ⟨_, _, _, Int.le_refl _, Int.le_refl _, D0.out⟩⟩
  case round =>
    obtain ⟨k, hk, hk40, rfl, HI⟩ := hrel
    obtain ⟨F, A, d, d0, dk, hD⟩ := HI.out
    have DD := Lib.hid hD
    have DB := Lib.hid (And.intro d0 dk)
    clear HI d0 dk hD
    by_cases hlt : k < N ∧ k < 40
    · obtain ⟨hlt, hlt4⟩ := hlt
      have hkL : k < L.length := by have := HN.out; omega
      obtain ⟨D, hc⟩ : ∃ c : De, L[k]? = some c := ⟨_, List.getElem?_eq_getElem hkL⟩
      have OD := Lib.hid (OK.out D (List.mem_of_getElem? hc))
      obtain ⟨b, off, rfl, hA⟩ := H3.out (by omega)
      have HC := at10 (hA.below DD.out.bel) hc
      clear hA hc hkL
      obtain ⟨k0, o, f, j, x, p, a, cap, l⟩ := D
      unfold De.cells at HC
      simp only at HC
      have a0 : wr.cell? ⟨b, off + k * 10, none⟩ = some (.int .u8 k0) := HC 0 _ rfl
      have a1 := HC 1 _ rfl
      have a2 := HC 2 _ rfl
      have a3 := HC 3 _ rfl
      have a4 := HC 4 _ rfl
      have a5 := HC 5 _ rfl
      have a6 := HC 6 _ rfl
      have a7 := HC 7 _ rfl
      have a8 := HC 8 _ rfl
      have a9 := HC 9 _ rfl
      have WF : Hid (Wf f) := OD.out.wf
      have XX : Hid (okR x) := OD.out.x
      have RV : Hid (Rd K4 w (.slice a l.length cap) l) := OD.out.rd
      have OL : Hid (okL l) := OD.out.ok
      have KB : Hid (0 ≤ k0 ∧ k0 ≤ 255) := OD.out.kb
      clear HC OD
      generalize l.length = q at *
      have BX := Lib.hid (DD.out.box #[.int .u8 k0, .int .i64 o, .int .i64 f, .int .i64 j, .int .u8 x.1, .int .u8 x.2.1, .int .u8 x.2.2.1, .int .u8 x.2.2.2, .int .i64 p, .slice a q cap] 37)
      have DX := Lib.hid (DD.out.below (below_new wr (.cells #[.int .u8 k0, .int .i64 o, .int .i64 f, .int .i64 j, .int .u8 x.1, .int .u8 x.2.1, .int .u8 x.2.2.1, .int .u8 x.2.2.2, .int .i64 p, .slice a q cap] 37)))
      have DBx : Hid (0 ≤ d ∧ d ≤ (k : Int) ∧ d < 1000000) := ⟨DB.out.1, DB.out.2, by have := DB.out.2; omega⟩
      go_upto_region 6 with fail
      clear a0 a1 a2 a3 a4 a5 a6 a7 a8 a9 DD DB
      generalize (wr.alloc (.cells #[.int .u8 k0, .int .i64 o, .int .i64 f, .int .i64 j, .int .u8 x.1, .int .u8 x.2.1, .int .u8 x.2.2.1, .int .u8 x.2.2.2, .int .i64 p, .slice a q cap] 37)) = W at *
      generalize wr.heap.size = g at *
      have c0 : W.cell? ⟨g, 0, none⟩ = some (.int .u8 k0) := row_cell BX.out.row 0
      by_cases h0 : k0.tmod 5 = 0
      · go_upto_region 12 with fail
        clear c0
        have C0 : (fun W' : World => W'.heap[g]? = some (.cells #[.int .u8 k0, .int .i64 o, .int .i64 f, .int .i64 j, .int .u8 x.1, .int .u8 x.2.1, .int .u8 x.2.2.1, .int .u8 x.2.2.2, .int .i64 p, .slice a q cap] 37 (0, 0))) W.drew := BX.out.row
        have ne : Nonempty (Sc.In (fun W' : World => W'.heap[g]? = some (.cells #[.int .u8 k0, .int .i64 o, .int .i64 f, .int .i64 j, .int .u8 x.1, .int .u8 x.2.1, .int .u8 x.2.2.1, .int .u8 x.2.2.2, .int .i64 p, .slice a q cap] 37 (0, 0)))) := ⟨⟨_, C0⟩⟩
        have s2 := Sc.cell_in (C := (fun W' : World => W'.heap[g]? = some (.cells #[.int .u8 k0, .int .i64 o, .int .i64 f, .int .i64 j, .int .u8 x.1, .int .u8 x.2.1, .int .u8 x.2.2.1, .int .u8 x.2.2.2, .int .i64 p, .slice a q cap] 37 (0, 0)))) (a := ⟨g, 2, none⟩) (v := .int .i64 f) (fun w' h => row_cell h 2)
        have s8 := Sc.cell_in (C := (fun W' : World => W'.heap[g]? = some (.cells #[.int .u8 k0, .int .i64 o, .int .i64 f, .int .i64 j, .int .u8 x.1, .int .u8 x.2.1, .int .u8 x.2.2.1, .int .u8 x.2.2.2, .int .i64 p, .slice a q cap] 37 (0, 0)))) (a := ⟨g, 8, none⟩) (v := .int .i64 p) (fun w' h => row_cell h 8)
        have s9 := Sc.cell_in (C := (fun W' : World => W'.heap[g]? = some (.cells #[.int .u8 k0, .int .i64 o, .int .i64 f, .int .i64 j, .int .u8 x.1, .int .u8 x.2.1, .int .u8 x.2.2.1, .int .u8 x.2.2.2, .int .i64 p, .slice a q cap] 37 (0, 0)))) (a := ⟨g, 9, none⟩) (v := .slice a q cap) (fun w' h => row_cell h 9)
        refine Sc.start (fun W' : World => W'.heap[g]? = some (.cells #[.int .u8 k0, .int .i64 o, .int .i64 f, .int .i64 j, .int .u8 x.1, .int .u8 x.2.1, .int .u8 x.2.2.1, .int .u8 x.2.2.2, .int .i64 p, .slice a q cap] 37 (0, 0))) [(false, 0), (false, 1), (false, 2), (false, 3), (false, 4), (false, 5), (false, 8), (false, 9), (false, 10), (false, 11), (false, 12), (false, 13), (true, 6), (true, 7), (true, 14), (true, 15), (false, 16)] (by kernel_rfl) (by kernel_rfl) (by kernel_rfl) C0 ?_
        dsimp only [Sd.picks, List.getElem?_cons_succ, List.getElem?_cons_zero]
        repeat (refine Sd.lit ?_; quiet_step (fail); refine wpQuiet_nil ?_)
        have DA := Lib.hid (DX.out.below ((Below.refl W.heap.size W).drew))
        have BA := Lib.hid (BX.out.below ((Below.refl W.heap.size W).drew))
        clear s2 s8 s9 C0 DX BX
        generalize W.drew = W1 at *
        refine Sd.call (by rfl) (fun K hK => ?_)
        have FE := few_any W1 p _ l (RV.out.below DA.out.bel)
        unfold file at FE
        go_simp
        refine FE.mono ?_
        rintro e wa ⟨u, rfl, ru, eo, hu, bu⟩
        obtain rfl := hu a q cap rfl
        have DA1 := Lib.hid (DA.out.below bu)
        have BA1 := Lib.hid (BA.out.below bu)
        refine hK _ _ (Sc.Cl.of BA1.out.row) ?_
        clear hK K FE hu bu DA BA eo
        refine Sd.call (by rfl) (fun K hK => ?_)
        have AD := add_any DA1.out.st f p _ (l.take 260) ru (okL_take OL.out 260)
        unfold file at AD
        go_simp
        refine AD.mono ?_
        rintro e wb ⟨rfl, st, on⟩
        have DA2 := Lib.hid (DA1.out.inS st on)
        have BA2 := Lib.hid (BA1.out.inS on)
        refine hK _ _ (Sc.Cl.of BA2.out.row) ?_
        clear hK K AD st on ru DA1 BA1
        generalize Fx F wa wb = F1 at *
        refine Sd.call (by rfl) (fun K hK => ?_)
        have FE := few_any wb p _ l (RV.out.below DA2.out.bel)
        unfold file at FE
        go_simp
        refine FE.mono ?_
        rintro e wc ⟨u, rfl, ru, eo, hu, bu⟩
        obtain rfl := hu a q cap rfl
        have DA3 := Lib.hid (DA2.out.below bu)
        have BA3 := Lib.hid (BA2.out.below bu)
        refine hK _ _ (Sc.Cl.of BA3.out.row) ?_
        clear hK K FE hu bu DA2 BA2
        refine Sd.call (by rfl) (fun K hK => ?_)
        have AD := radd_any DA3.out.rs DA3.out.st.low f p _ (l.take 260) ru (DA3.out.offv RV.out (fun h => by rw [List.length_take] at h; omega) eo) (okL_take OL.out 260)
        unfold file at AD
        go_simp
        refine AD.mono ?_
        rintro e wd ⟨rfl, rs, on⟩
        have DA4 := Lib.hid (DA3.out.inR rs on)
        have BA4 := Lib.hid (BA3.out.inR on)
        refine hK _ _ (Sc.Cl.of BA4.out.row) ?_
        clear hK K AD rs on ru eo DA3 BA3
        generalize addE A f p (l.take 260) = z at *
        generalize addA A f p (l.take 260) = A1 at *
        repeat (refine Sd.lit ?_; quiet_step (fail); refine wpQuiet_nil ?_)
        refine Sd.done ?_
        have D1 : Hid (0 ≤ d ∧ d ≤ (k : Int) + 1) := ⟨DBx.out.1, by have := DBx.out.2.1; omega⟩
        clear DBx ne h0
        generalize d = d1 at *
        generalize F1 = F at *
        have GS := Lib.hid (fun W (S : St W s F A1 d1) => get_st S WF.out j)
        have GR := Lib.hid (fun W (S : Rs W r F A1 d1) => rget_st S f j)
        generalize gV A1 f j = y at *
        generalize gB A1 f j = bb at *
        have ES : Hid (∀ w, (Op.equalIn 10000 32 (.agg #[.int .u8 y.1, .int .u8 y.2.1, .int .u8 y.2.2.1, .int .u8 y.2.2.2]) (.agg #[.int .u8 y.1, .int .u8 y.2.1, .int .u8 y.2.2.1, .int .u8 y.2.2.2])).run Tryd.prog w = .ok true w) := fun w => by
          have := eq_rec y y w
          simpa using this
        go_upto_region 17 with fail
        have c2 : wd.cell? ⟨g, 2, none⟩ = some (.int .i64 f) := row_cell BA4.out.row 2
        have c3 : wd.cell? ⟨g, 3, none⟩ = some (.int .i64 j) := row_cell BA4.out.row 3
        go_wp2_with fail
        clear c2 c3
        refine (GS.out _ DA4.out.st).mono ?_
        rintro e wg ⟨rfl, bg⟩
        have bh := below_new wg (.cells #[.int .u8 y.1, .int .u8 y.2.1, .int .u8 y.2.2.1, .int .u8 y.2.2.2] 32)
        have Y1 := Lib.hid ((DA4.out.below bg).box #[.int .u8 y.1, .int .u8 y.2.1, .int .u8 y.2.2.1, .int .u8 y.2.2.2] 32)
        have DG := Lib.hid ((DA4.out.below bg).below bh)
        have BG := Lib.hid ((BA4.out.below bg).below bh)
        clear bg bh DA4 BA4
        unfold rec4
        go_upto_region 18 with fail
        generalize (wg.alloc (.cells #[.int .u8 y.1, .int .u8 y.2.1, .int .u8 y.2.2.1, .int .u8 y.2.2.2] 32)) = WG at *
        generalize wg.heap.size = gy at *
        have c2 : WG.cell? ⟨g, 2, none⟩ = some (.int .i64 f) := row_cell BG.out.row 2
        have c3 : WG.cell? ⟨g, 3, none⟩ = some (.int .i64 j) := row_cell BG.out.row 3
        go_wp2_with fail
        clear c2 c3
        refine (GR.out _ DG.out.rs).mono ?_
        rintro e wh ⟨rfl, bg⟩
        have bh := below_new wh (.cells #[.int .u8 y.1, .int .u8 y.2.1, .int .u8 y.2.2.1, .int .u8 y.2.2.2] 32)
        have Y2 := Lib.hid ((DG.out.below bg).box #[.int .u8 y.1, .int .u8 y.2.1, .int .u8 y.2.2.1, .int .u8 y.2.2.2] 32)
        have DH := Lib.hid ((DG.out.below bg).below bh)
        have Y3 := Lib.hid ((Y1.out.below bg).below bh)
        clear bg bh DG BG Y1
        unfold rec4
        go_upto_region 19 with fail
        generalize (wh.alloc (.cells #[.int .u8 y.1, .int .u8 y.2.1, .int .u8 y.2.2.1, .int .u8 y.2.2.2] 32)) = WH at *
        generalize wh.heap.size = gz at *
        have x0 := Qb.cell_by (show WH.cell? ⟨gy, 0, none⟩ = some (.int .u8 y.1) from row_cell Y3.out.row 0)
        have x1 := Qb.cell_by (show WH.cell? ⟨gy, 1, none⟩ = some (.int .u8 y.2.1) from row_cell Y3.out.row 1)
        have x2 := Qb.cell_by (show WH.cell? ⟨gy, 2, none⟩ = some (.int .u8 y.2.2.1) from row_cell Y3.out.row 2)
        have x3 := Qb.cell_by (show WH.cell? ⟨gy, 3, none⟩ = some (.int .u8 y.2.2.2) from row_cell Y3.out.row 3)
        have y0 := Qb.cell_by (show WH.cell? ⟨gz, 0, none⟩ = some (.int .u8 y.1) from row_cell Y2.out.row 0)
        have y1 := Qb.cell_by (show WH.cell? ⟨gz, 1, none⟩ = some (.int .u8 y.2.1) from row_cell Y2.out.row 1)
        have y2 := Qb.cell_by (show WH.cell? ⟨gz, 2, none⟩ = some (.int .u8 y.2.2.1) from row_cell Y2.out.row 2)
        have y3 := Qb.cell_by (show WH.cell? ⟨gz, 3, none⟩ = some (.int .u8 y.2.2.2) from row_cell Y2.out.row 3)
        obtain ⟨rv, rl, hrr, -⟩ := id DH.out.rs
        have z1 := Qb.cell_by (show WH.cell? ⟨r, 1, none⟩ = some (.int .i64 d1) from row_cell hrr.row 1)
        clear hrr rl
        have es := ES.out
        have DN := Lib.hid (fun (P : Qb.By WH) => denied_st (DH.out.below P.below).st)
        refine Qb.wp_region_by (by kernel_rfl) (by kernel_rfl) ?_
        repeat (quiet_step ((go_at_call 16; exact Qb.of_below (DN.out _))))
        refine wpQuiet_nil ?_
        intro _ hw'
        obtain ⟨pp, rfl⟩ := hw'
        have DF := Lib.hid (DH.out.below pp.below)
        clear x0 x1 x2 x3 y0 y1 y2 y3 z1 es DN DH Y2 Y3 GS GR ES
        generalize pp.world = wp at *
        go_wp2
        go_roundw
        case rel => exact ⟨k + 1, by omega, by omega, by go_num, ⟨_, _, _, D1.out.1, by have := D1.out.2; omega, DF.out⟩⟩
        case measure => simp [intOf]; omega
      · by_cases h1 : k0.tmod 5 = 1
        · go_upto_region 15 with fail
          clear c0
          have SE := Lib.hid (fun W (S : St W s F A d) => set_any S WF.out j x XX.out)
          have RE := Lib.hid (fun W F' (R : Rs W r F' A d) (hF : ∀ k, F' k → k < W.heap.size) => rset_any R hF f j x XX.out)
          generalize sB A f j = z at *
          generalize sA A f j x = A1 at *
          have C0 : (fun W' : World => W'.heap[g]? = some (.cells #[.int .u8 k0, .int .i64 o, .int .i64 f, .int .i64 j, .int .u8 x.1, .int .u8 x.2.1, .int .u8 x.2.2.1, .int .u8 x.2.2.2, .int .i64 p, .slice a q cap] 37 (0, 0))) W.drew := BX.out.row
          have ne : Nonempty (Sc.In (fun W' : World => W'.heap[g]? = some (.cells #[.int .u8 k0, .int .i64 o, .int .i64 f, .int .i64 j, .int .u8 x.1, .int .u8 x.2.1, .int .u8 x.2.2.1, .int .u8 x.2.2.2, .int .i64 p, .slice a q cap] 37 (0, 0)))) := ⟨⟨_, C0⟩⟩
          have s2 := Sc.cell_in (C := (fun W' : World => W'.heap[g]? = some (.cells #[.int .u8 k0, .int .i64 o, .int .i64 f, .int .i64 j, .int .u8 x.1, .int .u8 x.2.1, .int .u8 x.2.2.1, .int .u8 x.2.2.2, .int .i64 p, .slice a q cap] 37 (0, 0)))) (a := ⟨g, 2, none⟩) (v := .int .i64 f) (fun w' h => row_cell h 2)
          have s3 := Sc.cell_in (C := (fun W' : World => W'.heap[g]? = some (.cells #[.int .u8 k0, .int .i64 o, .int .i64 f, .int .i64 j, .int .u8 x.1, .int .u8 x.2.1, .int .u8 x.2.2.1, .int .u8 x.2.2.2, .int .i64 p, .slice a q cap] 37 (0, 0)))) (a := ⟨g, 3, none⟩) (v := .int .i64 j) (fun w' h => row_cell h 3)
          have s4 := Sc.cell_in (C := (fun W' : World => W'.heap[g]? = some (.cells #[.int .u8 k0, .int .i64 o, .int .i64 f, .int .i64 j, .int .u8 x.1, .int .u8 x.2.1, .int .u8 x.2.2.1, .int .u8 x.2.2.2, .int .i64 p, .slice a q cap] 37 (0, 0)))) (a := ⟨g, 4, none⟩) (v := .int .u8 x.1) (fun w' h => row_cell h 4)
          have s5 := Sc.cell_in (C := (fun W' : World => W'.heap[g]? = some (.cells #[.int .u8 k0, .int .i64 o, .int .i64 f, .int .i64 j, .int .u8 x.1, .int .u8 x.2.1, .int .u8 x.2.2.1, .int .u8 x.2.2.2, .int .i64 p, .slice a q cap] 37 (0, 0)))) (a := ⟨g, 5, none⟩) (v := .int .u8 x.2.1) (fun w' h => row_cell h 5)
          have s6 := Sc.cell_in (C := (fun W' : World => W'.heap[g]? = some (.cells #[.int .u8 k0, .int .i64 o, .int .i64 f, .int .i64 j, .int .u8 x.1, .int .u8 x.2.1, .int .u8 x.2.2.1, .int .u8 x.2.2.2, .int .i64 p, .slice a q cap] 37 (0, 0)))) (a := ⟨g, 6, none⟩) (v := .int .u8 x.2.2.1) (fun w' h => row_cell h 6)
          have s7 := Sc.cell_in (C := (fun W' : World => W'.heap[g]? = some (.cells #[.int .u8 k0, .int .i64 o, .int .i64 f, .int .i64 j, .int .u8 x.1, .int .u8 x.2.1, .int .u8 x.2.2.1, .int .u8 x.2.2.2, .int .i64 p, .slice a q cap] 37 (0, 0)))) (a := ⟨g, 7, none⟩) (v := .int .u8 x.2.2.2) (fun w' h => row_cell h 7)
          refine Sc.start (fun W' : World => W'.heap[g]? = some (.cells #[.int .u8 k0, .int .i64 o, .int .i64 f, .int .i64 j, .int .u8 x.1, .int .u8 x.2.1, .int .u8 x.2.2.1, .int .u8 x.2.2.2, .int .i64 p, .slice a q cap] 37 (0, 0))) [(false, 0), (false, 1), (false, 2), (false, 3), (false, 4), (false, 5), (false, 6), (false, 7), (false, 8), (false, 10), (false, 11), (false, 12), (false, 13), (false, 14), (false, 15), (false, 16), (false, 17), (false, 18), (true, 9), (true, 19), (false, 20)] (by kernel_rfl) (by kernel_rfl) (by kernel_rfl) C0 ?_
          dsimp only [Sd.picks, List.getElem?_cons_succ, List.getElem?_cons_zero]
          repeat (refine Sd.lit ?_; quiet_step (fail); refine wpQuiet_nil ?_)
          have DA := Lib.hid (DX.out.below ((Below.refl W.heap.size W).drew))
          have BA := Lib.hid (BX.out.below ((Below.refl W.heap.size W).drew))
          clear s2 s3 s4 s5 s6 s7 C0 DX BX
          generalize W.drew = W1 at *
          refine Sd.call (by rfl) (fun K hK => ?_)
          have AD := SE.out _ DA.out.st
          unfold rec4 at AD
          go_simp
          refine AD.mono ?_
          rintro e wb ⟨rfl, st, on⟩
          have DA2 := Lib.hid (DA.out.inS st on)
          have BA2 := Lib.hid (BA.out.inS on)
          refine hK _ _ (Sc.Cl.of BA2.out.row) ?_
          clear hK K AD st on DA BA
          generalize Fx F W1 wb = F1 at *
          refine Sd.call (by rfl) (fun K hK => ?_)
          have AD := RE.out _ _ DA2.out.rs DA2.out.st.low
          unfold rec4 at AD
          go_simp
          refine AD.mono ?_
          rintro e wd ⟨rfl, rs, on⟩
          have DA4 := Lib.hid (DA2.out.inR rs on)
          have BA4 := Lib.hid (BA2.out.inR on)
          refine hK _ _ (Sc.Cl.of BA4.out.row) ?_
          clear hK K AD rs on DA2 BA2 SE RE
          repeat (refine Sd.lit ?_; quiet_step (fail); refine wpQuiet_nil ?_)
          refine Sd.done ?_
          have D1 : Hid (0 ≤ d ∧ d ≤ (k : Int) + 1) := ⟨DBx.out.1, by have := DBx.out.2.1; omega⟩
          clear DBx ne h0 h1
          generalize d = d1 at *
          generalize F1 = F at *
          have GS := Lib.hid (fun W (S : St W s F A1 d1) => get_st S WF.out j)
          have GR := Lib.hid (fun W (S : Rs W r F A1 d1) => rget_st S f j)
          generalize gV A1 f j = y at *
          generalize gB A1 f j = bb at *
          have ES : Hid (∀ w, (Op.equalIn 10000 32 (.agg #[.int .u8 y.1, .int .u8 y.2.1, .int .u8 y.2.2.1, .int .u8 y.2.2.2]) (.agg #[.int .u8 y.1, .int .u8 y.2.1, .int .u8 y.2.2.1, .int .u8 y.2.2.2])).run Tryd.prog w = .ok true w) := fun w => by
            have := eq_rec y y w
            simpa using this
          go_upto_region 17 with fail
          have c2 : wd.cell? ⟨g, 2, none⟩ = some (.int .i64 f) := row_cell BA4.out.row 2
          have c3 : wd.cell? ⟨g, 3, none⟩ = some (.int .i64 j) := row_cell BA4.out.row 3
          go_wp2_with fail
          clear c2 c3
          refine (GS.out _ DA4.out.st).mono ?_
          rintro e wg ⟨rfl, bg⟩
          have bh := below_new wg (.cells #[.int .u8 y.1, .int .u8 y.2.1, .int .u8 y.2.2.1, .int .u8 y.2.2.2] 32)
          have Y1 := Lib.hid ((DA4.out.below bg).box #[.int .u8 y.1, .int .u8 y.2.1, .int .u8 y.2.2.1, .int .u8 y.2.2.2] 32)
          have DG := Lib.hid ((DA4.out.below bg).below bh)
          have BG := Lib.hid ((BA4.out.below bg).below bh)
          clear bg bh DA4 BA4
          unfold rec4
          go_upto_region 18 with fail
          generalize (wg.alloc (.cells #[.int .u8 y.1, .int .u8 y.2.1, .int .u8 y.2.2.1, .int .u8 y.2.2.2] 32)) = WG at *
          generalize wg.heap.size = gy at *
          have c2 : WG.cell? ⟨g, 2, none⟩ = some (.int .i64 f) := row_cell BG.out.row 2
          have c3 : WG.cell? ⟨g, 3, none⟩ = some (.int .i64 j) := row_cell BG.out.row 3
          go_wp2_with fail
          clear c2 c3
          refine (GR.out _ DG.out.rs).mono ?_
          rintro e wh ⟨rfl, bg⟩
          have bh := below_new wh (.cells #[.int .u8 y.1, .int .u8 y.2.1, .int .u8 y.2.2.1, .int .u8 y.2.2.2] 32)
          have Y2 := Lib.hid ((DG.out.below bg).box #[.int .u8 y.1, .int .u8 y.2.1, .int .u8 y.2.2.1, .int .u8 y.2.2.2] 32)
          have DH := Lib.hid ((DG.out.below bg).below bh)
          have Y3 := Lib.hid ((Y1.out.below bg).below bh)
          clear bg bh DG BG Y1
          unfold rec4
          go_upto_region 19 with fail
          generalize (wh.alloc (.cells #[.int .u8 y.1, .int .u8 y.2.1, .int .u8 y.2.2.1, .int .u8 y.2.2.2] 32)) = WH at *
          generalize wh.heap.size = gz at *
          have x0 := Qb.cell_by (show WH.cell? ⟨gy, 0, none⟩ = some (.int .u8 y.1) from row_cell Y3.out.row 0)
          have x1 := Qb.cell_by (show WH.cell? ⟨gy, 1, none⟩ = some (.int .u8 y.2.1) from row_cell Y3.out.row 1)
          have x2 := Qb.cell_by (show WH.cell? ⟨gy, 2, none⟩ = some (.int .u8 y.2.2.1) from row_cell Y3.out.row 2)
          have x3 := Qb.cell_by (show WH.cell? ⟨gy, 3, none⟩ = some (.int .u8 y.2.2.2) from row_cell Y3.out.row 3)
          have y0 := Qb.cell_by (show WH.cell? ⟨gz, 0, none⟩ = some (.int .u8 y.1) from row_cell Y2.out.row 0)
          have y1 := Qb.cell_by (show WH.cell? ⟨gz, 1, none⟩ = some (.int .u8 y.2.1) from row_cell Y2.out.row 1)
          have y2 := Qb.cell_by (show WH.cell? ⟨gz, 2, none⟩ = some (.int .u8 y.2.2.1) from row_cell Y2.out.row 2)
          have y3 := Qb.cell_by (show WH.cell? ⟨gz, 3, none⟩ = some (.int .u8 y.2.2.2) from row_cell Y2.out.row 3)
          obtain ⟨rv, rl, hrr, -⟩ := id DH.out.rs
          have z1 := Qb.cell_by (show WH.cell? ⟨r, 1, none⟩ = some (.int .i64 d1) from row_cell hrr.row 1)
          clear hrr rl
          have es := ES.out
          have DN := Lib.hid (fun (P : Qb.By WH) => denied_st (DH.out.below P.below).st)
          refine Qb.wp_region_by (by kernel_rfl) (by kernel_rfl) ?_
          repeat (quiet_step ((go_at_call 16; exact Qb.of_below (DN.out _))))
          refine wpQuiet_nil ?_
          intro _ hw'
          obtain ⟨pp, rfl⟩ := hw'
          have DF := Lib.hid (DH.out.below pp.below)
          clear x0 x1 x2 x3 y0 y1 y2 y3 z1 es DN DH Y2 Y3 GS GR ES
          generalize pp.world = wp at *
          go_wp2
          go_roundw
          case rel => exact ⟨k + 1, by omega, by omega, by go_num, ⟨_, _, _, D1.out.1, by have := D1.out.2; omega, DF.out⟩⟩
          case measure => simp [intOf]; omega
        · go_upto_region 7 with fail
          clear c0
          have SE := Lib.hid (fun W (h : Dd w s r F A d A d W) => dos_any h.st (h.glob HG.out).1 (h.glob HG.out).2 ⟨DBx.out.1, DBx.out.2.2⟩ o f j x XX.out)
          have RE := Lib.hid (fun W F' (R : Rs W r F' A d) (hF : ∀ k, F' k → k < W.heap.size) => rdos_any R hF ⟨DBx.out.1, DBx.out.2.2⟩ o f j x XX.out)
          have D1 : Hid (0 ≤ dD A o f j d ∧ dD A o f j d ≤ (k : Int) + 1) := by
            have := @dD_le A o f j d
            exact ⟨Int.le_trans DBx.out.1 this.1, by have := DBx.out.2.1; omega⟩
          generalize dV A o f j x = yy at *
          generalize dE A o f j = z at *
          generalize dA A o f j x = A1 at *
          generalize dD A o f j d = d1 at *
          have ES : Hid (∀ w, (Op.equalIn 10000 32 (.agg #[.int .u8 yy.1, .int .u8 yy.2.1, .int .u8 yy.2.2.1, .int .u8 yy.2.2.2]) (.agg #[.int .u8 yy.1, .int .u8 yy.2.1, .int .u8 yy.2.2.1, .int .u8 yy.2.2.2])).run Tryd.prog w = .ok true w) := fun w => by
            have := eq_rec yy yy w
            simpa using this
          have c1 : W.cell? ⟨g, 1, none⟩ = some (.int .i64 o) := row_cell BX.out.row 1
          have c2 : W.cell? ⟨g, 2, none⟩ = some (.int .i64 f) := row_cell BX.out.row 2
          have c3 : W.cell? ⟨g, 3, none⟩ = some (.int .i64 j) := row_cell BX.out.row 3
          have c4 : W.cell? ⟨g, 4, none⟩ = some (.int .u8 x.1) := row_cell BX.out.row 4
          have c5 : W.cell? ⟨g, 5, none⟩ = some (.int .u8 x.2.1) := row_cell BX.out.row 5
          have c6 : W.cell? ⟨g, 6, none⟩ = some (.int .u8 x.2.2.1) := row_cell BX.out.row 6
          have c7 : W.cell? ⟨g, 7, none⟩ = some (.int .u8 x.2.2.2) := row_cell BX.out.row 7
          go_wp2_with fail
          clear c1 c2 c3 c4 c5 c6 c7
          have AD := SE.out _ DX.out
          unfold Ad.addr rec4 at AD
          refine AD.mono ?_
          rintro e wa ⟨rfl, st, on⟩
          have bh := below_new wa (.cells #[.int .u8 yy.1, .int .u8 yy.2.1, .int .u8 yy.2.2.1, .int .u8 yy.2.2.2] 32)
          have T := Lib.hid (DX.out.inS st on)
          have Y1 := Lib.hid (T.out.box #[.int .u8 yy.1, .int .u8 yy.2.1, .int .u8 yy.2.2.1, .int .u8 yy.2.2.2] 32)
          have DA2 := Lib.hid (T.out.below bh)
          have BA2 := Lib.hid ((BX.out.inS on).below bh)
          clear AD st on bh T DX BX
          generalize Fx F W wa = F1 at *
          unfold rec4
          go_upto_region 8 with fail
          generalize (wa.alloc (.cells #[.int .u8 yy.1, .int .u8 yy.2.1, .int .u8 yy.2.2.1, .int .u8 yy.2.2.2] 32)) = WA at *
          generalize wa.heap.size = gy at *
          have c1 : WA.cell? ⟨g, 1, none⟩ = some (.int .i64 o) := row_cell BA2.out.row 1
          have c2 : WA.cell? ⟨g, 2, none⟩ = some (.int .i64 f) := row_cell BA2.out.row 2
          have c3 : WA.cell? ⟨g, 3, none⟩ = some (.int .i64 j) := row_cell BA2.out.row 3
          have c4 : WA.cell? ⟨g, 4, none⟩ = some (.int .u8 x.1) := row_cell BA2.out.row 4
          have c5 : WA.cell? ⟨g, 5, none⟩ = some (.int .u8 x.2.1) := row_cell BA2.out.row 5
          have c6 : WA.cell? ⟨g, 6, none⟩ = some (.int .u8 x.2.2.1) := row_cell BA2.out.row 6
          have c7 : WA.cell? ⟨g, 7, none⟩ = some (.int .u8 x.2.2.2) := row_cell BA2.out.row 7
          go_wp2_with fail
          clear c1 c2 c3 c4 c5 c6 c7
          have AD := RE.out _ _ DA2.out.rs DA2.out.st.low
          unfold Ad.addr rec4 at AD
          refine AD.mono ?_
          rintro e wb ⟨rfl, rs, on⟩
          have bh := below_new wb (.cells #[.int .u8 yy.1, .int .u8 yy.2.1, .int .u8 yy.2.2.1, .int .u8 yy.2.2.2] 32)
          have T := Lib.hid (DA2.out.inR rs on)
          have Y2 := Lib.hid (T.out.box #[.int .u8 yy.1, .int .u8 yy.2.1, .int .u8 yy.2.2.1, .int .u8 yy.2.2.2] 32)
          have Y3 := Lib.hid ((Y1.out.inR on).below bh)
          have DA4 := Lib.hid (T.out.below bh)
          have BA4 := Lib.hid ((BA2.out.inR on).below bh)
          clear AD rs on bh T DA2 BA2 Y1
          unfold rec4
          go_upto_region 9 with fail
          generalize (wb.alloc (.cells #[.int .u8 yy.1, .int .u8 yy.2.1, .int .u8 yy.2.2.1, .int .u8 yy.2.2.2] 32)) = WD at *
          generalize wb.heap.size = gz at *
          have x0 : WD.cell? ⟨gy, 0, none⟩ = some (.int .u8 yy.1) := row_cell Y3.out.row 0
          have x1 : WD.cell? ⟨gy, 1, none⟩ = some (.int .u8 yy.2.1) := row_cell Y3.out.row 1
          have x2 : WD.cell? ⟨gy, 2, none⟩ = some (.int .u8 yy.2.2.1) := row_cell Y3.out.row 2
          have x3 : WD.cell? ⟨gy, 3, none⟩ = some (.int .u8 yy.2.2.2) := row_cell Y3.out.row 3
          have y0 : WD.cell? ⟨gz, 0, none⟩ = some (.int .u8 yy.1) := row_cell Y2.out.row 0
          have y1 : WD.cell? ⟨gz, 1, none⟩ = some (.int .u8 yy.2.1) := row_cell Y2.out.row 1
          have y2 : WD.cell? ⟨gz, 2, none⟩ = some (.int .u8 yy.2.2.1) := row_cell Y2.out.row 2
          have y3 : WD.cell? ⟨gz, 3, none⟩ = some (.int .u8 yy.2.2.2) := row_cell Y2.out.row 3
          have es := ES.out
          go_upto_region 17 with fail
          clear x0 x1 x2 x3 y0 y1 y2 y3 es ES Y2 Y3 SE RE DBx h0 h1
          generalize F1 = F at *
          have GS := Lib.hid (fun W (S : St W s F A1 d1) => get_st S WF.out j)
          have GR := Lib.hid (fun W (S : Rs W r F A1 d1) => rget_st S f j)
          generalize gV A1 f j = y at *
          generalize gB A1 f j = bb at *
          have ES : Hid (∀ w, (Op.equalIn 10000 32 (.agg #[.int .u8 y.1, .int .u8 y.2.1, .int .u8 y.2.2.1, .int .u8 y.2.2.2]) (.agg #[.int .u8 y.1, .int .u8 y.2.1, .int .u8 y.2.2.1, .int .u8 y.2.2.2])).run Tryd.prog w = .ok true w) := fun w => by
            have := eq_rec y y w
            simpa using this
          have c2 : WD.cell? ⟨g, 2, none⟩ = some (.int .i64 f) := row_cell BA4.out.row 2
          have c3 : WD.cell? ⟨g, 3, none⟩ = some (.int .i64 j) := row_cell BA4.out.row 3
          go_wp2_with fail
          clear c2 c3
          refine (GS.out _ DA4.out.st).mono ?_
          rintro e wg ⟨rfl, bg⟩
          have bh := below_new wg (.cells #[.int .u8 y.1, .int .u8 y.2.1, .int .u8 y.2.2.1, .int .u8 y.2.2.2] 32)
          have Y1 := Lib.hid ((DA4.out.below bg).box #[.int .u8 y.1, .int .u8 y.2.1, .int .u8 y.2.2.1, .int .u8 y.2.2.2] 32)
          have DG := Lib.hid ((DA4.out.below bg).below bh)
          have BG := Lib.hid ((BA4.out.below bg).below bh)
          clear bg bh DA4 BA4
          unfold rec4
          go_upto_region 18 with fail
          generalize (wg.alloc (.cells #[.int .u8 y.1, .int .u8 y.2.1, .int .u8 y.2.2.1, .int .u8 y.2.2.2] 32)) = WG at *
          generalize wg.heap.size = gy at *
          have c2 : WG.cell? ⟨g, 2, none⟩ = some (.int .i64 f) := row_cell BG.out.row 2
          have c3 : WG.cell? ⟨g, 3, none⟩ = some (.int .i64 j) := row_cell BG.out.row 3
          go_wp2_with fail
          clear c2 c3
          refine (GR.out _ DG.out.rs).mono ?_
          rintro e wh ⟨rfl, bg⟩
          have bh := below_new wh (.cells #[.int .u8 y.1, .int .u8 y.2.1, .int .u8 y.2.2.1, .int .u8 y.2.2.2] 32)
          have Y2 := Lib.hid ((DG.out.below bg).box #[.int .u8 y.1, .int .u8 y.2.1, .int .u8 y.2.2.1, .int .u8 y.2.2.2] 32)
          have DH := Lib.hid ((DG.out.below bg).below bh)
          have Y3 := Lib.hid ((Y1.out.below bg).below bh)
          clear bg bh DG BG Y1
          unfold rec4
          go_upto_region 19 with fail
          generalize (wh.alloc (.cells #[.int .u8 y.1, .int .u8 y.2.1, .int .u8 y.2.2.1, .int .u8 y.2.2.2] 32)) = WH at *
          generalize wh.heap.size = gz at *
          have x0 := Qb.cell_by (show WH.cell? ⟨gy, 0, none⟩ = some (.int .u8 y.1) from row_cell Y3.out.row 0)
          have x1 := Qb.cell_by (show WH.cell? ⟨gy, 1, none⟩ = some (.int .u8 y.2.1) from row_cell Y3.out.row 1)
          have x2 := Qb.cell_by (show WH.cell? ⟨gy, 2, none⟩ = some (.int .u8 y.2.2.1) from row_cell Y3.out.row 2)
          have x3 := Qb.cell_by (show WH.cell? ⟨gy, 3, none⟩ = some (.int .u8 y.2.2.2) from row_cell Y3.out.row 3)
          have y0 := Qb.cell_by (show WH.cell? ⟨gz, 0, none⟩ = some (.int .u8 y.1) from row_cell Y2.out.row 0)
          have y1 := Qb.cell_by (show WH.cell? ⟨gz, 1, none⟩ = some (.int .u8 y.2.1) from row_cell Y2.out.row 1)
          have y2 := Qb.cell_by (show WH.cell? ⟨gz, 2, none⟩ = some (.int .u8 y.2.2.1) from row_cell Y2.out.row 2)
          have y3 := Qb.cell_by (show WH.cell? ⟨gz, 3, none⟩ = some (.int .u8 y.2.2.2) from row_cell Y2.out.row 3)
          obtain ⟨rv, rl, hrr, -⟩ := id DH.out.rs
          have z1 := Qb.cell_by (show WH.cell? ⟨r, 1, none⟩ = some (.int .i64 d1) from row_cell hrr.row 1)
          clear hrr rl
          have es := ES.out
          have DN := Lib.hid (fun (P : Qb.By WH) => denied_st (DH.out.below P.below).st)
          refine Qb.wp_region_by (by kernel_rfl) (by kernel_rfl) ?_
          repeat (quiet_step ((go_at_call 16; exact Qb.of_below (DN.out _))))
          refine wpQuiet_nil ?_
          intro _ hw'
          obtain ⟨pp, rfl⟩ := hw'
          have DF := Lib.hid (DH.out.below pp.below)
          clear x0 x1 x2 x3 y0 y1 y2 y3 z1 es DN DH Y2 Y3 GS GR ES
          generalize pp.world = wp at *
          go_wp2
          go_roundw
          case rel => exact ⟨k + 1, by omega, by omega, by go_num, ⟨_, _, _, D1.out.1, by have := D1.out.2; omega, DF.out⟩⟩
          case measure => simp [intOf]; omega
    · have EX : ¬ ((k : Int) < N) ∨ ((k : Int) < N ∧ ¬ ((k : Int) < 40)) := by omega
      clear hlt D0 OK H3 HN
      rcases EX with h1 | ⟨h1, h2⟩
      all_goals
        go_upto_region 21 with fail
        obtain ⟨rv, rl, hrr, hra⟩ := id DD.out.rs
        have LR : Hid (Ls (fun k => F k ∨ k = r) wr rv A) := ⟨rl, hrr.list, hra⟩
        have z0 := Sd.cell_by (show wr.cell? ⟨r, 0, none⟩ = some rv from row_cell hrr.row 0)
        have LE := Lib.hid DD.out.st.okA.len
        clear hrr hra rl
        refine Sd.start [(true, 0), (false, 1), (false, 2), (false, 4), (false, 5), (false, 6), (false, 7), (true, 3), (true, 8), (false, 9), (false, 10)] (by kernel_rfl) (by kernel_rfl) (by kernel_rfl) ?_
        dsimp only [Sd.picks, List.getElem?_cons_succ, List.getElem?_cons_zero]
        have B0 := Lib.hid ((Below.refl wr.heap.size wr).drew)
        generalize wr.drew = W1 at *
        refine Sd.call (by rfl) (fun K hK => ?_)
        go_simp
        refine (awake_any W1 (DD.out.below B0.out |>.glob HG.out).1).mono ?_
        rintro e wa ⟨rfl, b⟩
        have B1 := Lib.hid (B0.out.trans (b.mono B0.out.size))
        refine hK _ _ (Sd.Cl.of B1.out) ?_
        clear hK K b B0
        repeat (refine Sd.lit ?_; quiet_step (fail); refine wpQuiet_nil ?_)
        refine Sd.call (by rfl) (fun K hK => ?_)
        go_simp
        refine (files_any (DD.out.below B1.out).st).mono ?_
        rintro e wb ⟨v, rfl, hls, b⟩
        have LV := Lib.hid (hls F (DD.out.below B1.out).st.low)
        have B2 := Lib.hid (B1.out.trans (b.mono B1.out.size))
        refine hK _ _ (Sd.Cl.of B2.out) ?_
        clear hK K b B1 hls
        refine Sd.call (by rfl) (fun K hK => ?_)
        go_simp
        refine (same_is LV.out (LR.out.below B2.out) LE.out).mono ?_
        rintro e wc ⟨rfl, b⟩
        have B3 := Lib.hid (B2.out.trans (b.mono B2.out.size))
        refine hK _ _ (Sd.Cl.of B3.out) ?_
        clear hK K b B2
        repeat (refine Sd.lit ?_; quiet_step (fail); refine wpQuiet_nil ?_)
        refine Sd.done ?_
        have BB := Lib.hid (DD.out.below B3.out).bel
        go_wp2
        go_ret
        first | exact ⟨rfl, BB.out⟩ | exact ⟨rfl, hs ▸ BB.out⟩

end Go.Proofs.YtoeemngekioldaaDoor.Fs
