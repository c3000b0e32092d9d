/- IfsCopies, walked. -/
import Derived.Test.YtoeemngekioldaaDoorFsDeeds
import Derived.Test.YtoeemngekioldaaDoorFsCopy
import Derived.Test.YtoeemngekioldaaDoorSc
namespace Go.Proofs.YtoeemngekioldaaDoor.Fs
open Go.RowKit Go.Maps
open Go.Proofs.YtoeemngekioldaaDoor.Fl (R4 z4 K4 rec4 rat goodF goodFB okR okL file arr4 row_cell row_frozen eq_rec okL_take ret_bool rgood_any)
open Go.Proofs.YtoeemngekioldaaDoor.Rw (Rd Ow At)
set_option maxRecDepth 100000
attribute [local irreducible] Sd.wpSd wpQuiet

theorem glob2 {w w1 W : World} {F : Nat → Prop} (g : Glob w) (b0 : Below w.heap.size w w1) (b : Below w1.heap.size w1 W) (lo : ∀ k, F k → w1.heap.size ≤ k) : Glob W ∧ ¬ F 0 :=
  ⟨(g.below b0).below b, fun hk => by have := lo _ hk; have : _ < w.heap.size := World.block_lt_of_cell? _ _ g; have := b0.size; simp only at *; omega⟩
theorem len_ls {F : Nat → Prop} {w : World} {v : Value} {A : Abs} (h : Ls F w v A) : ∃ a cap, v = .slice a A.length cap := by
  obtain ⟨L, hL, rfl⟩ := h
  obtain ⟨a, cap, e, _⟩ := hL.rd.slice
  exact ⟨a, cap, by rw [List.length_map]; exact e⟩
set_option maxHeartbeats 16000000 in
theorem copies_any {w : World} (hg : Glob w) {v v' : Value} {L L' : List De} (R : Rd KD w v L) (ok : ∀ D ∈ L, D.Ok w) (R' : Rd KD w v' L') (ok' : ∀ D ∈ L', D.Ok w) : Calls Tryd.prog 4 #[v, v'] w fun e w' => e = .returned (.bool true) ∧ Below w.heap.size w w' := by
  obtain ⟨va, vc, rfl, _, _, h3⟩ := R
  obtain ⟨va', vc', rfl, _, _, h3'⟩ := R'
  have H3 := Lib.hid h3
  have H3' := Lib.hid h3'
  have OK := Lib.hid ok
  have OK' := Lib.hid ok'
  have HG := Lib.hid hg
  clear h3 ok hg h3' ok'
  generalize hn : L.length = N at *
  have HN := Lib.hid hn
  clear hn
  generalize hn : L'.length = N' at *
  have HN' := Lib.hid hn
  clear hn
  have S0 : Hid (Aw w w.heap.size (fun k => k = w.heap.size) [] 0 (w.alloc (.cells #[.map none, .int .i64 0] 61))) := ⟨new_st w, fun k hk => by subst hk; exact Nat.le_refl _, below_new w _⟩
  go_enter Tryd.func4, Tryd.ntmps4
  go_wp2_with (go_at_call 6; refine (new_any _).mono ?_; rintro e w1 ⟨rfl, rfl⟩)
  go_wp2_with fail
  generalize (w.alloc (.cells #[.map none, .int .i64 0] 61)) = W0 at *
  generalize hs : w.heap.size = s at *
  have HS := Lib.hid hs
  clear hs
  go_loopw [6] (fun i wr => ∃ k : Nat, k ≤ N ∧ k ≤ 20 ∧ i = .int .i64 k ∧ Hid (∃ F A d, 0 ≤ d ∧ d ≤ (k : Int) ∧ Aw w s F A d wr)) (fun i _ => 20 - (intOf i).toNat)
  case atStart => exact ⟨0, Nat.zero_le _, Nat.zero_le _, rfl, ⟨_, _, _, Int.le_refl _, Int.le_refl _, S0.out⟩⟩
  case round =>
    obtain ⟨k, hk, hk20, rfl, HI⟩ := hrel
    obtain ⟨F, A, d, d0, dk, hD⟩ := HI.out
    have AW := Lib.hid hD
    have DBx : Hid (0 ≤ d ∧ d ≤ (k : Int) ∧ d < 1000000) := ⟨d0, dk, by omega⟩
    clear HI d0 dk hD
    by_cases hlt : k < N ∧ k < 20
    · obtain ⟨hlt, hlt4⟩ := hlt
      have hkL : k < L.length := by have := HN.out; omega
      obtain ⟨D, hc⟩ : ∃ c : De, L[k]? = some c := ⟨_, List.getElem?_eq_getElem hkL⟩
      have OD := Lib.hid (OK.out D (List.mem_of_getElem? hc))
      obtain ⟨b, off, rfl, hA⟩ := H3.out (by omega)
      have HC := at10 hA hc
      clear hA hc hkL
      obtain ⟨k0, o, f, j, x, p, a, cap, l⟩ := D
      unfold De.cells at HC
      simp only at HC
      have WF : Hid (Wf f) := OD.out.wf
      have XX : Hid (okR x) := OD.out.x
      have RV : Hid (Rd K4 w (.slice a l.length cap) l) := OD.out.rd
      have OL : Hid (okL l) := OD.out.ok
      clear OD
      generalize l.length = q at *
      have HX : Hid (∀ i u, [Value.int .u8 k0, Value.int .i64 o, Value.int .i64 f, Value.int .i64 j, Value.int .u8 x.1, Value.int .u8 x.2.1, Value.int .u8 x.2.2.1, Value.int .u8 x.2.2.2, Value.int .i64 p, Value.slice a q cap][i]? = some u → w.cell? ⟨b, off + k * 10 + i, none⟩ = some u) := HC
      clear HC
      have BE := Lib.hid AW.out.bel
      go_upto_region 5 with fail
      have C0 : (fun W' : World => Below w.heap.size w W') wr.drew := BE.out.drew
      have ne : Nonempty (Sc.In (fun W' : World => Below w.heap.size w W')) := ⟨⟨_, C0⟩⟩
      have s2 := Sc.cell_in (C := (fun W' : World => Below w.heap.size w W')) (a := ⟨b, off + k * 10 + 2, none⟩) (v := .int .i64 f) (fun W' h => (h.cell (World.block_lt_of_cell? _ _ (HX.out 2 _ rfl))).trans (HX.out 2 _ rfl))
      have s8 := Sc.cell_in (C := (fun W' : World => Below w.heap.size w W')) (a := ⟨b, off + k * 10 + 8, none⟩) (v := .int .i64 p) (fun W' h => (h.cell (World.block_lt_of_cell? _ _ (HX.out 8 _ rfl))).trans (HX.out 8 _ rfl))
      have s9 := Sc.cell_in (C := (fun W' : World => Below w.heap.size w W')) (a := ⟨b, off + k * 10 + 9, none⟩) (v := .slice a q cap) (fun W' h => (h.cell (World.block_lt_of_cell? _ _ (HX.out 9 _ rfl))).trans (HX.out 9 _ rfl))
      refine Sc.start (fun W' : World => Below w.heap.size w W') [(false, 0), (false, 1), (false, 2), (false, 3), (false, 4), (false, 5), (false, 6), (false, 7), (false, 8), (false, 9), (false, 10), (false, 11), (true, 12), (true, 13)] (by kernel_rfl) (by kernel_rfl) (by kernel_rfl) C0 ?_
      dsimp only [Sd.picks, List.getElem?_cons_succ, List.getElem?_cons_zero]
      repeat (refine Sd.lit ?_; quiet_step (fail); refine wpQuiet_nil ?_)
      clear s2 s8 s9 C0 ne BE
      refine Sd.call (by rfl) (fun K hK => ?_)
      have A1 := Lib.hid (AW.out.below ((Below.refl wr.heap.size wr).drew))
      clear AW
      generalize wr.drew = W1 at *
      have FE := few_any W1 p _ l (RV.out.below A1.out.bel)
      unfold file at FE
      go_simp
      refine FE.mono ?_
      rintro e wa ⟨u, rfl, ru, eo, hu, bu⟩
      obtain rfl := hu a q cap rfl
      have A2 := Lib.hid (A1.out.below bu)
      refine hK _ _ (Sc.Cl.of A2.out.bel) ?_
      clear hK K FE hu bu A1 eo
      refine Sd.call (by rfl) (fun K hK => ?_)
      have AD := add_any A2.out.st f p _ (l.take 260) ru (okL_take OL.out 260)
      unfold file at AD
      go_simp
      refine AD.mono ?_
      rintro e wb ⟨rfl, st, on⟩
      have A3 := Lib.hid (A2.out.next st on)
      refine hK _ _ (Sc.Cl.of A3.out.bel) ?_
      clear hK K AD st on ru A2
      generalize Fx F wa wb = F1 at *
      generalize addA A f p (l.take 260) = A1 at *
      refine Sd.done ?_
      have BE := Lib.hid A3.out.bel
      go_upto_region 6 with fail
      have C0 : (fun W' : World => Below w.heap.size w W') wb.drew := BE.out.drew
      have ne : Nonempty (Sc.In (fun W' : World => Below w.heap.size w W')) := ⟨⟨_, C0⟩⟩
      have s1 := Sc.cell_in (C := (fun W' : World => Below w.heap.size w W')) (a := ⟨b, off + k * 10 + 1, none⟩) (v := .int .i64 o) (fun W' h => (h.cell (World.block_lt_of_cell? _ _ (HX.out 1 _ rfl))).trans (HX.out 1 _ rfl))
      have s2 := Sc.cell_in (C := (fun W' : World => Below w.heap.size w W')) (a := ⟨b, off + k * 10 + 2, none⟩) (v := .int .i64 f) (fun W' h => (h.cell (World.block_lt_of_cell? _ _ (HX.out 2 _ rfl))).trans (HX.out 2 _ rfl))
      have s3 := Sc.cell_in (C := (fun W' : World => Below w.heap.size w W')) (a := ⟨b, off + k * 10 + 3, none⟩) (v := .int .i64 j) (fun W' h => (h.cell (World.block_lt_of_cell? _ _ (HX.out 3 _ rfl))).trans (HX.out 3 _ rfl))
      have s4 := Sc.cell_in (C := (fun W' : World => Below w.heap.size w W')) (a := ⟨b, off + k * 10 + 4, none⟩) (v := .int .u8 x.1) (fun W' h => (h.cell (World.block_lt_of_cell? _ _ (HX.out 4 _ rfl))).trans (HX.out 4 _ rfl))
      have s5 := Sc.cell_in (C := (fun W' : World => Below w.heap.size w W')) (a := ⟨b, off + k * 10 + 5, none⟩) (v := .int .u8 x.2.1) (fun W' h => (h.cell (World.block_lt_of_cell? _ _ (HX.out 5 _ rfl))).trans (HX.out 5 _ rfl))
      have s6 := Sc.cell_in (C := (fun W' : World => Below w.heap.size w W')) (a := ⟨b, off + k * 10 + 6, none⟩) (v := .int .u8 x.2.2.1) (fun W' h => (h.cell (World.block_lt_of_cell? _ _ (HX.out 6 _ rfl))).trans (HX.out 6 _ rfl))
      have s7 := Sc.cell_in (C := (fun W' : World => Below w.heap.size w W')) (a := ⟨b, off + k * 10 + 7, none⟩) (v := .int .u8 x.2.2.2) (fun W' h => (h.cell (World.block_lt_of_cell? _ _ (HX.out 7 _ rfl))).trans (HX.out 7 _ rfl))
      refine Sc.start (fun W' : World => Below w.heap.size w W') [(false, 0), (false, 1), (false, 2), (false, 3), (false, 4), (false, 5), (false, 6), (false, 7), (false, 8), (false, 9), (false, 10), (true, 11)] (by kernel_rfl) (by kernel_rfl) (by kernel_rfl) C0 ?_
      dsimp only [Sd.picks, List.getElem?_cons_succ, List.getElem?_cons_zero]
      repeat (refine Sd.lit ?_; quiet_step (fail); refine wpQuiet_nil ?_)
      clear s1 s2 s3 s4 s5 s6 s7 C0 ne BE
      refine Sd.call (by rfl) (fun K hK => ?_)
      have A4 := Lib.hid (A3.out.below ((Below.refl wb.heap.size wb).drew))
      clear A3
      generalize wb.drew = W2 at *
      have AD := dos_any A4.out.st (A4.out.glob HG.out).1 (A4.out.glob HG.out).2 ⟨DBx.out.1, DBx.out.2.2⟩ o f j x XX.out
      have D1 : Hid (0 ≤ dD A1 o f j d ∧ dD A1 o f j d ≤ (k : Int) + 1) := by
        have := @dD_le A1 o f j d
        exact ⟨Int.le_trans DBx.out.1 this.1, by have := DBx.out.2.1; omega⟩
      unfold Ad.addr rec4 at AD
      go_simp
      refine AD.mono ?_
      rintro e wc ⟨rfl, st, on⟩
      have A5 := Lib.hid (A4.out.next st on)
      refine hK _ _ (Sc.Cl.of A5.out.bel) ?_
      clear hK K AD st on A4 DBx
      refine Sd.done ?_
      go_wp2
      go_roundw
      case rel => exact ⟨k + 1, by omega, by omega, by go_num, ⟨_, _, _, D1.out.1, by have := D1.out.2; omega, A5.out⟩⟩
      case measure => simp [intOf]; omega
    · have EX : ¬ ((k : Int) < N) ∨ ((k : Int) < N ∧ ¬ ((k : Int) < 20)) := by omega
      clear hlt S0 OK H3 HN
      rcases EX with h1 | ⟨h1, h2⟩
      all_goals
        go_wp2_with fail
        refine (files_any AW.out.st).mono ?_
        rintro e w1 ⟨v, rfl, hls, b1⟩
        have LV := Lib.hid (hls (fun _ => False) (fun _ h => h.elim))
        have BW := Lib.hid (AW.out.bel.trans (b1.mono AW.out.bel.size))
        have SS := Lib.hid (AW.out.st.below b1)
        clear hls b1 AW
        obtain ⟨la, lc, rfl⟩ := len_ls LV.out
        have LE := Lib.hid SS.out.okA.len
        generalize hm : A.length = M at *
        have HM := Lib.hid hm
        clear hm
        go_wp2_with fail
        refine (copy_any SS.out).mono ?_
        rintro e w2 ⟨g, F2, rfl, st2, lo2, b2⟩
        have CW : Hid (Aw w1 g F2 A d w2) := ⟨st2, lo2, b2⟩
        clear st2 lo2 b2
        go_wp2_with fail
        refine (files_any CW.out.st).mono ?_
        rintro e w3 ⟨v2, rfl, hls, b⟩
        have LV2 := Lib.hid (hls (fun _ => False) (fun _ h => h.elim))
        have CW2 := Lib.hid (CW.out.below b)
        clear hls b CW
        go_wp2_with fail
        refine (same_is LV2.out (LV.out.below CW2.out.bel) (by have := HM.out; have := LE.out; omega)).mono ?_
        rintro e w4 ⟨rfl, b⟩
        have CW3 := Lib.hid (CW2.out.below b)
        clear b CW2 LV2
        go_wp2_with fail
        refine (denied_st CW3.out.st).mono ?_
        rintro e w5 ⟨rfl, b⟩
        have CW4 := Lib.hid (CW3.out.below b)
        clear b CW3
        go_wp2_with fail
        refine (denied_st (SS.out.below CW4.out.bel)).mono ?_
        rintro e w6 ⟨rfl, b⟩
        have CW5 := Lib.hid (CW4.out.below b)
        clear b CW4
        go_wp2_with fail
        have D2 : Hid (0 ≤ d ∧ d ≤ 20) := ⟨DBx.out.1, by have := DBx.out.2.1; omega⟩
        clear DBx
        go_loopw [9] (fun i wr => ∃ k : Nat, k ≤ N' ∧ k ≤ 20 ∧ i = .int .i64 k ∧ Hid (∃ F A d, 0 ≤ d ∧ d ≤ 20 + (k : Int) ∧ A.length = M ∧ Aw w1 g F A d wr)) (fun i _ => 20 - (intOf i).toNat)
        case atStart => exact ⟨0, Nat.zero_le _, Nat.zero_le _, rfl, ⟨_, _, _, D2.out.1, by have := D2.out.2; omega, HM.out, CW5.out⟩⟩
        case round =>
          obtain ⟨k, hk, hk20, rfl, HI⟩ := hrel
          obtain ⟨F3, A3, d3, d0, dk, hlen, hD⟩ := HI.out
          have AW := Lib.hid hD
          have DBx : Hid (0 ≤ d3 ∧ d3 ≤ 20 + (k : Int) ∧ d3 < 1000000) := ⟨d0, dk, by omega⟩
          have HM3 := Lib.hid hlen
          clear HI d0 dk hD hlen CW5 D2
          by_cases hlt : k < N' ∧ k < 20
          · obtain ⟨hlt, hlt4⟩ := hlt
            have hkL : k < L'.length := by have := HN'.out; omega
            obtain ⟨D, hc⟩ : ∃ c : De, L'[k]? = some c := ⟨_, List.getElem?_eq_getElem hkL⟩
            have OD := Lib.hid (OK'.out D (List.mem_of_getElem? hc))
            obtain ⟨b, off, rfl, hA⟩ := H3'.out (by omega)
            have HC := at10 hA hc
            clear hA hc hkL
            obtain ⟨k0, o, f, j, x, p, a, cap, l⟩ := D
            unfold De.cells at HC
            simp only at HC
            have WF : Hid (Wf f) := OD.out.wf
            have XX : Hid (okR x) := OD.out.x
            have RV : Hid (Rd K4 w (.slice a l.length cap) l) := OD.out.rd
            have OL : Hid (okL l) := OD.out.ok
            clear OD
            generalize l.length = q at *
            have HX : Hid (∀ i u, [Value.int .u8 k0, Value.int .i64 o, Value.int .i64 f, Value.int .i64 j, Value.int .u8 x.1, Value.int .u8 x.2.1, Value.int .u8 x.2.2.1, Value.int .u8 x.2.2.2, Value.int .i64 p, Value.slice a q cap][i]? = some u → w.cell? ⟨b, off + k * 10 + i, none⟩ = some u) := HC
            clear HC
            have BE := Lib.hid (BW.out.trans (AW.out.bel.mono BW.out.size))
            go_upto_region 14 with fail
            have C0 : (fun W' : World => Below w.heap.size w W') wr.drew := BE.out.drew
            have ne : Nonempty (Sc.In (fun W' : World => Below w.heap.size w W')) := ⟨⟨_, C0⟩⟩
            have s2 := Sc.cell_in (C := (fun W' : World => Below w.heap.size w W')) (a := ⟨b, off + k * 10 + 2, none⟩) (v := .int .i64 f) (fun W' h => (h.cell (World.block_lt_of_cell? _ _ (HX.out 2 _ rfl))).trans (HX.out 2 _ rfl))
            have s3 := Sc.cell_in (C := (fun W' : World => Below w.heap.size w W')) (a := ⟨b, off + k * 10 + 3, none⟩) (v := .int .i64 j) (fun W' h => (h.cell (World.block_lt_of_cell? _ _ (HX.out 3 _ rfl))).trans (HX.out 3 _ rfl))
            have s4 := Sc.cell_in (C := (fun W' : World => Below w.heap.size w W')) (a := ⟨b, off + k * 10 + 4, none⟩) (v := .int .u8 x.1) (fun W' h => (h.cell (World.block_lt_of_cell? _ _ (HX.out 4 _ rfl))).trans (HX.out 4 _ rfl))
            have s5 := Sc.cell_in (C := (fun W' : World => Below w.heap.size w W')) (a := ⟨b, off + k * 10 + 5, none⟩) (v := .int .u8 x.2.1) (fun W' h => (h.cell (World.block_lt_of_cell? _ _ (HX.out 5 _ rfl))).trans (HX.out 5 _ rfl))
            have s6 := Sc.cell_in (C := (fun W' : World => Below w.heap.size w W')) (a := ⟨b, off + k * 10 + 6, none⟩) (v := .int .u8 x.2.2.1) (fun W' h => (h.cell (World.block_lt_of_cell? _ _ (HX.out 6 _ rfl))).trans (HX.out 6 _ rfl))
            have s7 := Sc.cell_in (C := (fun W' : World => Below w.heap.size w W')) (a := ⟨b, off + k * 10 + 7, none⟩) (v := .int .u8 x.2.2.2) (fun W' h => (h.cell (World.block_lt_of_cell? _ _ (HX.out 7 _ rfl))).trans (HX.out 7 _ rfl))
            refine Sc.start (fun W' : World => Below w.heap.size w W') [(false, 0), (false, 1), (false, 2), (false, 3), (false, 4), (false, 5), (false, 6), (false, 7), (false, 8), (false, 9), (false, 10), (false, 11), (false, 12), (false, 13), (false, 14), (false, 15), (false, 16), (false, 17), (true, 18)] (by kernel_rfl) (by kernel_rfl) (by kernel_rfl) C0 ?_
            dsimp only [Sd.picks, List.getElem?_cons_succ, List.getElem?_cons_zero]
            repeat (refine Sd.lit ?_; quiet_step (fail); refine wpQuiet_nil ?_)
            clear s2 s3 s4 s5 s6 s7 C0 ne BE
            refine Sd.call (by rfl) (fun K hK => ?_)
            have A1 := Lib.hid (AW.out.below ((Below.refl wr.heap.size wr).drew))
            clear AW
            generalize wr.drew = W1 at *
            have AD := set_any A1.out.st WF.out j x XX.out
            unfold rec4 at AD
            go_simp
            refine AD.mono ?_
            rintro e wb ⟨rfl, st, on⟩
            have A2 := Lib.hid (A1.out.next st on)
            have HM4 : Hid ((sA A3 f j x).length = M) := (len_set A1.out.st.okA).trans HM3.out
            have BE2 := Lib.hid (BW.out.trans (A2.out.bel.mono BW.out.size))
            refine hK _ _ (Sc.Cl.of BE2.out) ?_
            clear hK K AD st on A1 HM3
            generalize Fx F3 W1 wb = F4 at *
            generalize sA A3 f j x = A4 at *
            refine Sd.done ?_
            have BE := Lib.hid BE2.out
            go_upto_region 15 with fail
            have C0 : (fun W' : World => Below w.heap.size w W') wb.drew := BE.out.drew
            have ne : Nonempty (Sc.In (fun W' : World => Below w.heap.size w W')) := ⟨⟨_, C0⟩⟩
            have s1 := Sc.cell_in (C := (fun W' : World => Below w.heap.size w W')) (a := ⟨b, off + k * 10 + 1, none⟩) (v := .int .i64 o) (fun W' h => (h.cell (World.block_lt_of_cell? _ _ (HX.out 1 _ rfl))).trans (HX.out 1 _ rfl))
            have s2 := Sc.cell_in (C := (fun W' : World => Below w.heap.size w W')) (a := ⟨b, off + k * 10 + 2, none⟩) (v := .int .i64 f) (fun W' h => (h.cell (World.block_lt_of_cell? _ _ (HX.out 2 _ rfl))).trans (HX.out 2 _ rfl))
            have s3 := Sc.cell_in (C := (fun W' : World => Below w.heap.size w W')) (a := ⟨b, off + k * 10 + 3, none⟩) (v := .int .i64 j) (fun W' h => (h.cell (World.block_lt_of_cell? _ _ (HX.out 3 _ rfl))).trans (HX.out 3 _ rfl))
            have s4 := Sc.cell_in (C := (fun W' : World => Below w.heap.size w W')) (a := ⟨b, off + k * 10 + 4, none⟩) (v := .int .u8 x.1) (fun W' h => (h.cell (World.block_lt_of_cell? _ _ (HX.out 4 _ rfl))).trans (HX.out 4 _ rfl))
            have s5 := Sc.cell_in (C := (fun W' : World => Below w.heap.size w W')) (a := ⟨b, off + k * 10 + 5, none⟩) (v := .int .u8 x.2.1) (fun W' h => (h.cell (World.block_lt_of_cell? _ _ (HX.out 5 _ rfl))).trans (HX.out 5 _ rfl))
            have s6 := Sc.cell_in (C := (fun W' : World => Below w.heap.size w W')) (a := ⟨b, off + k * 10 + 6, none⟩) (v := .int .u8 x.2.2.1) (fun W' h => (h.cell (World.block_lt_of_cell? _ _ (HX.out 6 _ rfl))).trans (HX.out 6 _ rfl))
            have s7 := Sc.cell_in (C := (fun W' : World => Below w.heap.size w W')) (a := ⟨b, off + k * 10 + 7, none⟩) (v := .int .u8 x.2.2.2) (fun W' h => (h.cell (World.block_lt_of_cell? _ _ (HX.out 7 _ rfl))).trans (HX.out 7 _ rfl))
            refine Sc.start (fun W' : World => Below w.heap.size w W') [(false, 0), (false, 1), (false, 2), (false, 3), (false, 4), (false, 5), (false, 6), (false, 7), (false, 8), (false, 9), (false, 10), (true, 11)] (by kernel_rfl) (by kernel_rfl) (by kernel_rfl) C0 ?_
            dsimp only [Sd.picks, List.getElem?_cons_succ, List.getElem?_cons_zero]
            repeat (refine Sd.lit ?_; quiet_step (fail); refine wpQuiet_nil ?_)
            clear s1 s2 s3 s4 s5 s6 s7 C0 ne BE
            refine Sd.call (by rfl) (fun K hK => ?_)
            have A5 := Lib.hid (A2.out.below ((Below.refl wb.heap.size wb).drew))
            clear A2 BE2
            generalize wb.drew = W2 at *
            have GL := glob2 HG.out BW.out A5.out.bel A5.out.lo
            have AD := dos_any A5.out.st GL.1 GL.2 ⟨DBx.out.1, DBx.out.2.2⟩ o f j x XX.out
            have D1 : Hid (0 ≤ dD A4 o f j d3 ∧ dD A4 o f j d3 ≤ 20 + (k : Int) + 1) := by
              have := @dD_le A4 o f j d3
              exact ⟨Int.le_trans DBx.out.1 this.1, by have := DBx.out.2.1; omega⟩
            have HM5 : Hid ((dA A4 o f j x).length = M) := (len_do A5.out.st.okA).trans HM4.out
            unfold Ad.addr rec4 at AD
            clear GL
            go_simp
            refine AD.mono ?_
            rintro e wc ⟨rfl, st, on⟩
            have A6 := Lib.hid (A5.out.next st on)
            have BE3 := Lib.hid (BW.out.trans (A6.out.bel.mono BW.out.size))
            refine hK _ _ (Sc.Cl.of BE3.out) ?_
            clear hK K AD st on A5 DBx BE3
            refine Sd.done ?_
            go_wp2
            go_roundw
            case rel => exact ⟨k + 1, by omega, by omega, by go_num, ⟨_, _, _, D1.out.1, by have := D1.out.2; omega, HM5.out, A6.out⟩⟩
            case measure => simp [intOf]; omega
          · have EX : ¬ ((k : Int) < N') ∨ ((k : Int) < N' ∧ ¬ ((k : Int) < 20)) := by omega
            clear hlt OK' H3' HN' DBx
            rcases EX with h1 | ⟨h1, h2⟩
            all_goals
              go_wp2_with fail
              refine (files_any AW.out.st).mono ?_
              rintro e w7 ⟨v3, rfl, hls, b1⟩
              obtain ⟨L3, hL3, e3⟩ := hls (fun _ => False) (fun _ h => h.elim)
              have B7 := Lib.hid (AW.out.bel.trans (b1.mono AW.out.bel.size))
              have hM : L3.length = M := by have := HM3.out; rw [← e3, List.length_map] at this; exact this
              have OA := Lib.hid (e3 ▸ AW.out.st.okA : OkA (L3.map Ent.abs))
              obtain ⟨ka, kc, rfl, _, _, h3⟩ := hL3.rd
              have K3 := Lib.hid h3
              have KF := Lib.hid hL3.file
              clear hls b1 AW HM3 h3 hL3 e3
              rw [hM] at K3 ⊢
              have HM7 := Lib.hid hM
              clear hM
              go_wp2_with fail
              go_loopw [11] (fun i wr => ∃ k : Nat, k ≤ M ∧ i = .int .i64 k ∧ Hid (Below w7.heap.size w7 wr)) (fun i _ => M - (intOf i).toNat)
              case atStart => exact ⟨0, Nat.zero_le _, rfl, Below.refl _ _⟩
              case round =>
                obtain ⟨k, hk, rfl, B⟩ := hrel
                have hM64 : M ≤ 64 := by have := LE.out; have := HM.out; omega
                by_cases hlt : k < M
                · have hkL : k < L3.length := by have := HM7.out; omega
                  obtain ⟨⟨cn, cp, ca, cc, cl⟩, hc⟩ : ∃ c : Ent, L3[k]? = some c := ⟨_, List.getElem?_eq_getElem hkL⟩
                  have hcm := List.mem_of_getElem? hc
                  obtain ⟨b, off, rfl, hA⟩ := K3.out (by omega)
                  obtain ⟨_, x1, x2⟩ := at3 (hA.below B.out) hc
                  unfold Ent.sl at x2
                  simp only at x1 x2
                  have RC : Rd K4 wr (.slice ca cl.length cc) cl := (KF.out _ hcm).below B.out
                  have GD := rgood_any wr cp (.slice ca cl.length cc) cl RC
                  rw [show goodFB cp cl = true from decide_eq_true (OA.out.good _ (List.mem_map_of_mem hcm))] at GD
                  unfold file at GD
                  have GDH := Lib.hid GD
                  clear GD RC hcm hc hA hkL
                  generalize cl.length = q at *
                  go_wp2_with fail
                  clear x1 x2
                  refine GDH.out.mono ?_
                  rintro e w8 ⟨rfl, b8⟩
                  have B8 := Lib.hid (B.out.trans (b8.mono B.out.size))
                  clear b8 GDH B
                  go_wp2
                  go_roundw
                  case rel => exact ⟨k + 1, by omega, by go_num, B8⟩
                  case measure => simp [intOf]; omega
                · obtain rfl : k = M := by omega
                  have BZ := Lib.hid (B7.out.trans (B.out.mono B7.out.size))
                  clear B B7 K3 KF OA HM7
                  go_wp2_with fail
                  refine (awake_any _ ((HG.out.below BW.out).below BZ.out)).mono ?_
                  rintro e w8 ⟨rfl, b⟩
                  have B8 := Lib.hid (BZ.out.trans (b.mono BZ.out.size))
                  clear b BZ
                  go_wp2_with fail
                  refine (files_any (SS.out.below B8.out)).mono ?_
                  rintro e w9 ⟨v9, rfl, hls, b⟩
                  have LV9 := Lib.hid (hls (fun _ => False) (fun _ h => h.elim))
                  have B9 := Lib.hid (B8.out.trans (b.mono B8.out.size))
                  clear b B8 hls
                  go_wp2_with fail
                  refine (same_is LV9.out (LV.out.below B9.out) (by have := HM.out; have := LE.out; omega)).mono ?_
                  rintro e w10 ⟨rfl, b⟩
                  have BF := Lib.hid (BW.out.trans ((B9.out.trans (b.mono B9.out.size)).mono BW.out.size))
                  clear b B9 LV9
                  go_wp2
                  go_ret
                  first | exact ⟨rfl, BF.out⟩ | exact ⟨rfl, HS.out ▸ BF.out⟩

end Go.Proofs.YtoeemngekioldaaDoor.Fs
