/- Lists of files held against each other. -/
import Derived.Test.YtoeemngekioldaaDoorFsRix
import Derived.Test.YtoeemngekioldaaDoorQb
namespace Go.Proofs.YtoeemngekioldaaDoor.Fs
open Go.RowKit Go.Maps
open Go.Proofs.YtoeemngekioldaaDoor.Fl (R4 z4 K4 rec4 rat file rsame_any sameF ret_bool)
open Go.Proofs.YtoeemngekioldaaDoor.Rw (Rd Ow At)
set_option maxRecDepth 100000
attribute [local irreducible] wpQuiet
instance decR4 : DecidableEq R4 := @instDecidableEqProd _ _ _ (@instDecidableEqProd _ _ _ (@instDecidableEqProd _ _ _ _))
instance decFil : DecidableEq Fil := @instDecidableEqProd _ _ _ (@instDecidableEqProd _ _ _ (@instDecidableEqList _ decR4))
instance decAbs (A B : Abs) : Decidable (A = B) := @instDecidableEqList _ decFil A B



theorem below_drew {B : Nat} {w w' : World} (h : Below B w w') (n : Nat) : Below B w (w'.drewN n) := ⟨h.os, h.tape, h.output, h.size, h.block⟩
set_option maxHeartbeats 2000000 in
theorem same_any {w : World} {F F' : Nat → Prop} {v v' : Value} {L L' : List Ent} (h : Lst F w v L) (h' : Lst F' w v' L') (hlen : L.length ≤ 64) :
    Calls Tryd.prog 18 #[v, v'] w fun e w' => e = .returned (.bool (decide (L.map Ent.abs = L'.map Ent.abs))) ∧ Below w.heap.size w w' := by
  obtain ⟨a, cap, rfl, _, _, h3⟩ := h.rd
  obtain ⟨a', cap', rfl, _, _, h3'⟩ := h'.rd
  have H3 := Lib.hid h3
  have H3' := Lib.hid h3'
  have FL := Lib.hid h.file
  have FL' := Lib.hid h'.file
  clear h h' h3 h3'
  by_cases hl : L.length = L'.length
  · have HL := Lib.hid hl
    rw [← hl]
    rw [← hl] at H3'
    clear hl
    generalize hn : L.length = N at *
    have HN := Lib.hid hn
    clear hn
    go_enter Tryd.func18, Tryd.ntmps18
    go_wp2
    go_loopw [5] (fun i wr => ∃ k : Nat, k ≤ N ∧ i = .int .i64 k ∧ Hid ((L.take k).map Ent.abs = (L'.take k).map Ent.abs) ∧ Hid (Below w.heap.size w wr)) (fun i _ => N - (intOf i).toNat)
    case atStart => exact ⟨0, Nat.zero_le _, rfl, rfl, Below.refl _ _⟩
    case round =>
      obtain ⟨k, hk, rfl, E, B⟩ := hrel
      by_cases hlt : k < N
      · have hkL : k < L.length := by have := HN.out; omega
        have hkL' : k < L'.length := by have := HL.out; have := HN.out; omega
        obtain ⟨⟨cn, cp, ca, cc, cl⟩, hc⟩ : ∃ c : Ent, L[k]? = some c := ⟨_, List.getElem?_eq_getElem hkL⟩
        obtain ⟨⟨dn, dp, da, dc, dl⟩, hd⟩ : ∃ c : Ent, L'[k]? = some c := ⟨_, List.getElem?_eq_getElem hkL'⟩
        obtain ⟨b, off, rfl, hA⟩ := H3.out (by omega)
        obtain ⟨b', off', rfl, hA'⟩ := H3'.out (by omega)
        obtain ⟨x0, x1, x2⟩ := at3 (hA.below B.out) hc
        obtain ⟨y0, y1, y2⟩ := at3 (hA'.below B.out) hd
        unfold Ent.sl at x2 y2
        simp only at x0 x1 x2 y0 y1 y2
        have RC : Hid (Rd K4 w (.slice ca cl.length cc) cl) := FL.out _ (List.mem_of_getElem? hc)
        have RD : Hid (Rd K4 w (.slice da dl.length dc) dl) := FL'.out _ (List.mem_of_getElem? hd)
        have NO : Hid (¬ (cn = dn ∧ cp = dp ∧ cl = dl) → ¬ (L.map Ent.abs = L'.map Ent.abs)) := fun hne e => by
          have e1 := congrArg (fun l : List Fil => l[k]?) e
          simp only [List.getElem?_map, hc, hd, Option.map_some, Ent.abs] at e1
          injection e1 with e1
          injection e1 with e1 e2
          injection e2 with e2 e3
          exact hne ⟨e1, e2, e3⟩
        have YES : Hid (cn = dn → cp = dp → cl = dl → (L.take (k + 1)).map Ent.abs = (L'.take (k + 1)).map Ent.abs) := fun e1 e2 e3 => by
          rw [List.take_add_one, List.take_add_one, hc, hd, List.map_append, List.map_append, E.out]
          simp [Ent.abs, e1, e2, e3]
        have SA := Lib.hid (fun W (hb : Below w.heap.size w W) => rsame_any W cp dp (.slice ca cl.length cc) (.slice da dl.length dc) cl dl (RC.out.below hb) (RD.out.below hb))
        clear hc hd hA hA' hkL hkL'
        by_cases he : cn = dn
        · subst he
          cases hs : sameF cp cl dp dl with
          | false =>
            rw [hs] at SA
            have RES : Hid (decide (L.map Ent.abs = L'.map Ent.abs) = false) := decide_eq_false (NO.out fun ⟨_, e2, e3⟩ => by unfold sameF at hs; rw [decide_eq_true ⟨e2, e3⟩] at hs; cases hs)
            clear NO YES RC RD hs
            generalize cl.length = q at *
            generalize dl.length = q' at *
            unfold file at SA
            go_wp2_with fail
            have s0 := Qb.cell_by x0
            have s1 := Qb.cell_by x1
            have s2 := Qb.cell_by x2
            have t0 := Qb.cell_by y0
            have t1 := Qb.cell_by y1
            have t2 := Qb.cell_by y2
            clear x0 x1 x2 y0 y1 y2
            have SB := Lib.hid (fun (P : Qb.By wr) => SA.out P.world (B.out.trans (P.below.mono B.out.size)))
            refine Qb.wp_region_by (by kernel_rfl) (by kernel_rfl) ?_
            repeat (quiet_step ((go_at_call 33; exact Qb.of_below (SB.out _))))
            refine wpQuiet_nil ?_
            intro _ hw'
            obtain ⟨pp, rfl⟩ := hw'
            go_wp2
            go_ret
            exact ⟨ret_bool RES.out.symm, B.out.trans (pp.below.mono B.out.size)⟩
          | true =>
            rw [hs] at SA
            have ST : Hid ((L.take (k + 1)).map Ent.abs = (L'.take (k + 1)).map Ent.abs) := by
              have := of_decide_eq_true hs
              exact YES.out rfl this.1 this.2
            clear NO YES RC RD hs
            generalize cl.length = q at *
            generalize dl.length = q' at *
            unfold file at SA
            go_wp2_with fail
            have s0 := Qb.cell_by x0
            have s1 := Qb.cell_by x1
            have s2 := Qb.cell_by x2
            have t0 := Qb.cell_by y0
            have t1 := Qb.cell_by y1
            have t2 := Qb.cell_by y2
            clear x0 x1 x2 y0 y1 y2
            have SB := Lib.hid (fun (P : Qb.By wr) => SA.out P.world (B.out.trans (P.below.mono B.out.size)))
            refine Qb.wp_region_by (by kernel_rfl) (by kernel_rfl) ?_
            repeat (quiet_step ((go_at_call 33; exact Qb.of_below (SB.out _))))
            refine wpQuiet_nil ?_
            intro _ hw'
            obtain ⟨pp, rfl⟩ := hw'
            clear s0 s1 s2 t0 t1 t2 SB SA
            have BP := Lib.hid (B.out.trans (pp.below.mono B.out.size))
            generalize pp.world = wp at *
            go_wp2
            go_roundw
            case rel => exact ⟨k + 1, by omega, by go_num, ST, BP⟩
            case measure => simp [intOf]; omega
        · have RES : Hid (decide (L.map Ent.abs = L'.map Ent.abs) = false) := decide_eq_false (NO.out fun h => he h.1)
          clear NO YES RC RD SA
          generalize cl.length = q at *
          generalize dl.length = q' at *
          go_wp2_with fail
          have s0 := Qb.cell_by x0
          have s1 := Qb.cell_by x1
          have s2 := Qb.cell_by x2
          have t0 := Qb.cell_by y0
          have t1 := Qb.cell_by y1
          have t2 := Qb.cell_by y2
          clear x0 x1 x2 y0 y1 y2
          refine Qb.wp_region_by (by kernel_rfl) (by kernel_rfl) ?_
          repeat (quiet_step (fail))
          refine wpQuiet_nil ?_
          intro _ hw'
          obtain ⟨pp, rfl⟩ := hw'
          go_wp2
          go_ret
          exact ⟨ret_bool RES.out.symm, B.out.trans (pp.below.mono B.out.size)⟩
      · obtain rfl : k = N := by omega
        have RES : Hid (decide (L.map Ent.abs = L'.map Ent.abs) = true) := by
          have e := E.out
          rw [List.take_of_length_le (by have := HN.out; omega), List.take_of_length_le (by have := HN.out; have := HL.out; omega)] at e
          exact decide_eq_true e
        go_wp2
        go_ret
        exact ⟨ret_bool RES.out.symm, B.out⟩
  · have RES : Hid (decide (L.map Ent.abs = L'.map Ent.abs) = false) := decide_eq_false fun e => hl (by have := congrArg List.length e; rwa [List.length_map, List.length_map] at this)
    have h3 : ¬ ((L.length : Int) = L'.length) := by omega
    clear hl H3 H3' FL FL'
    generalize L.length = N at *
    generalize L'.length = N' at *
    go_enter Tryd.func18, Tryd.ntmps18
    go_wp2
    go_ret
    exact ⟨ret_bool RES.out.symm, Below.refl _ _⟩
theorem same_is {w : World} {F F' : Nat → Prop} {v v' : Value} {A : Abs} (h : Ls F w v A) (h' : Ls F' w v' A) (hlen : A.length ≤ 64) :
    Calls Tryd.prog 18 #[v, v'] w fun e w' => e = .returned (.bool true) ∧ Below w.heap.size w w' := by
  obtain ⟨L, hL, rfl⟩ := h
  obtain ⟨L', hL', e⟩ := h'
  have := same_any hL hL' (by rwa [List.length_map] at hlen)
  rwa [decide_eq_true e.symm] at this

end Go.Proofs.YtoeemngekioldaaDoor.Fs
