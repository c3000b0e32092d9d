/- check.Tables. -/
import Derived.Test.YtnigbihofebfhaaCkTabs
namespace Go.Proofs.Ytnigbihofebfhaa.Ck
open Go.RowKit
open Go.Proofs.Ytnigbihofebfhaa.Ro (E5 z5 eat ent K5 at5 eat_mem mayB mayP)
open Go.Proofs.Ytnigbihofebfhaa.Rw (Rd Ow At)
open Go.Proofs.Ytnigbihofebfhaa.Fl (ret_bool at_bool row_cell row_frozen file)
attribute [local irreducible] Sd.wpSd wpQuiet

/-- What Tables answers. -/
def TabPost (w : World) (L : LL) (e : Ending) (w' : World) : Prop := e = .returned (.tuple #[.int .i64 (tN L), .int .i64 (tE L)]) ∧ Below w.heap.size w w'

set_option maxHeartbeats 2000000 in
theorem tables_any (w : World) (v : Value) (L : LL) (R : RdL w v L) : Calls Try.prog 5 #[v] w (TabPost w L) := by
  have en : ∀ args w, (callFunc 12 args).run Try.prog w = .ok (.enter 12 args) w := enters_of Try.func12 (by kernel_rfl) rfl
  have IA := Lib.hid (index_any w v L 12 bad en R (fun W u l r => isno_any W u l r))
  rw [show idx bad 0 L = bI L from rfl] at IA
  have SA := Lib.hid (fun (W : World) (hb : Below w.heap.size w W) => senders_any W v L (R.below hb))
  have TF := Lib.hid (fun h => t_form (L := L) h)
  have TC := Lib.hid (fun h h2 => t_clash (L := L) h h2)
  have TG := Lib.hid (fun h h2 h3 => t_gap (L := L) h h2 h3)
  have TO := Lib.hid (fun h h2 h3 => t_ok (L := L) h h2 h3)
  have IS : Hid (¬ 0 ≤ bI L → InSlots L) := fun h k hk x hx => may_slot (may_all h k hk) hx
  have CS := Lib.hid (fun h => clash_same (L := L) h)
  have GS := Lib.hid (fun h => gap_same (L := L) h)
  have RL := Lib.hid R
  obtain ⟨a, cap, rfl, _⟩ := R.slice
  clear R en
  unfold TabPost
  by_cases h1 : 0 ≤ bI L
  · obtain ⟨e1, e2⟩ := TF.out h1
    rw [e1, e2]
    clear TF TC TG TO IS CS GS e1 e2
    generalize bI L = r at *
    generalize L.length = n at *
    go_enter Try.func5, Try.ntmps5
    go_wp2_with fail
    refine IA.out.mono ?_
    rintro e w1 ⟨rfl, b1⟩
    go_wp2
    go_ret2
    exact ⟨rfl, b1⟩
  · have is_ := IS.out h1
    have cs := CS.out h1
    have gs := GS.out h1
    have ec : ∀ args w, (callFunc 20 args).run Try.prog w = .ok (.enter 20 args) w := enters_of Try.func20 (by kernel_rfl) rfl
    have eg : ∀ args w, (callFunc 21 args).run Try.prog w = .ok (.enter 21 args) w := enters_of Try.func21 (by kernel_rfl) rfl
    have FC : Hid (∀ W B, Below w.heap.size w W → RowI W B (sF L) → ∃ x, Calls Try.prog 14 #[.slice a L.length cap, .func (.func 20) #[] #[.pointer (some ⟨B, 0, none⟩)]] W (WhoPost W (clN L) x)) := fun W B hb hr => by
      have := find_any W _ L 20 #[.pointer (some ⟨B, 0, none⟩)] (qc (sF L)) ec (RL.out.below hb) (cclos_any W B (sF L) L is_ hr)
      rw [cs] at this
      exact ⟨_, this⟩
    have FG : Hid (∀ W B, Below w.heap.size w W → RowI W B (sF L) → ∃ x, Calls Try.prog 14 #[.slice a L.length cap, .func (.func 21) #[] #[.pointer (some ⟨B, 0, none⟩)]] W (WhoPost W (gaN L) x)) := fun W B hb hr => by
      have := find_any W _ L 21 #[.pointer (some ⟨B, 0, none⟩)] (qg (sF L)) eg (RL.out.below hb) (gclos_any W B (sF L) L is_ hr)
      rw [gs] at this
      exact ⟨_, this⟩
    have TC' := Lib.hid (TC.out h1)
    have TG' := Lib.hid (TG.out h1)
    have TO' := Lib.hid (TO.out h1)
    clear is_ cs gs ec eg TF IS CS GS TC TG TO RL
    generalize sF L = F at *
    generalize bI L = r at *
    generalize clN L = rc at *
    generalize gaN L = rg at *
    generalize tN L = rn at *
    generalize tE L = re at *
    generalize L.length = n at *
    go_enter Try.func5, Try.ntmps5
    go_wp2_with fail
    refine IA.out.mono ?_
    rintro e w1 ⟨rfl, b1⟩
    have SB := Lib.hid (SA.out w1 b1)
    have B1 := Lib.hid b1
    clear b1 SA IA
    go_wp2_with fail
    refine SB.out.mono ?_
    rintro e w2 ⟨rfl, b2⟩
    have B2 := Lib.hid (B1.out.trans (b2.mono B1.out.size))
    clear b2 B1 SB
    go_upto_region 5 with (with_reducible refine store_ar_new rfl (.tmp 4) (.tmp 11) rfl F rfl rfl ?_)
    have R3 := Lib.hid (RowI.new w2 F)
    have B3 := Lib.hid (B2.out.alloc B2.out.size (.cells (ar F) 39))
    generalize w2.alloc (.cells (ar F) 39) = V at *
    generalize w2.heap.size = g at *
    clear B2
    go_wp2_with (with_reducible refine load_ar rfl (.tmp 4) rfl g F rfl R3.out ?_)
    refine (clash_any V F).mono ?_
    rintro e w4 ⟨rfl, rfl⟩
    have b4 := (Below.refl V.heap.size V).alloc (Nat.le_refl _) (.cells (ar F) 39)
    have R4 := Lib.hid (R3.out.below b4 R3.out.lt)
    have B4 := Lib.hid (B3.out.trans (b4.mono B3.out.size))
    obtain ⟨xc, fc⟩ := FC.out (V.alloc (.cells (ar F) 39)) V.heap.size B4.out (RowI.new V F)
    have CC := Lib.hid fc
    clear b4 R3 B3 fc FC
    generalize V.heap.size = gv at *
    generalize V.alloc (.cells (ar F) 39) = V4 at *
    unfold WhoPost ent at CC
    go_wp2_with fail
    refine CC.out.mono ?_
    rintro e w5 ⟨rfl, b5⟩
    have R5 := Lib.hid (R4.out.below b5 R4.out.lt)
    have B5 := Lib.hid (B4.out.trans (b5.mono B4.out.size))
    clear b5 R4 B4 CC
    by_cases h2 : 0 ≤ rc
    · obtain ⟨rfl, rfl⟩ := TC'.out h2
      clear TC' TG' TO'
      go_wp2
      go_ret2
      exact ⟨rfl, B5.out⟩
    · have TG2 := Lib.hid (TG'.out (by omega))
      have TO2 := Lib.hid (TO'.out (by omega))
      clear TC' TG' TO'
      go_upto_region 8 with fail
      go_wp2_with (with_reducible refine load_ar rfl (.tmp 4) rfl g F rfl R5.out ?_)
      refine (gap_any w5 F).mono ?_
      rintro e w6 ⟨rfl, rfl⟩
      have b6 := (Below.refl w5.heap.size w5).alloc (Nat.le_refl _) (.cells (ar F) 39)
      have B6 := Lib.hid (B5.out.trans (b6.mono B5.out.size))
      obtain ⟨xg, fg⟩ := FG.out (w5.alloc (.cells (ar F) 39)) w5.heap.size B6.out (RowI.new w5 F)
      have CC := Lib.hid fg
      clear b6 R5 B5 fg FG
      generalize w5.heap.size = g5 at *
      generalize w5.alloc (.cells (ar F) 39) = V6 at *
      unfold WhoPost ent at CC
      go_wp2_with fail
      refine CC.out.mono ?_
      rintro e w7 ⟨rfl, b7⟩
      have B7 := Lib.hid (B6.out.trans (b7.mono B6.out.size))
      clear b7 B6 CC
      by_cases h3 : 0 ≤ rg
      · obtain ⟨rfl, rfl⟩ := TG2.out h3
        clear TG2 TO2
        go_wp2
        go_ret2
        exact ⟨rfl, B7.out⟩
      · obtain ⟨rfl, rfl⟩ := TO2.out (by omega)
        clear TG2 TO2
        go_wp2
        go_ret2
        exact ⟨rfl, B7.out⟩

end Go.Proofs.Ytnigbihofebfhaa.Ck
