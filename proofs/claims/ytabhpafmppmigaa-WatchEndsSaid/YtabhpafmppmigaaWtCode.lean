/- watch.Round over the landed code; what the laws ask of the code. -/
import Derived.Test.YtabhpafmppmigaaWtOpen
import Derived.Test.YtabhpafmppmigaaWtRound
namespace Go.Proofs.Ytabhpafmppmigaa.Wt
open Go.RowKit
open Go.Proofs.Ytabhpafmppmigaa.Fl (ret_bool at_bool row_cell row_frozen)
open Go.Proofs.Ytabhpafmppmigaa.Fs (Only)
attribute [local irreducible] Sd.wpSd wpQuiet

/-- What a round makes of both. -/
theorem rnd_cases (a : A) : (opn a = 0 ∧ rnd a = ⟨1, 0, hdN a.r1, 0⟩) ∨ (opn a = 1 ∧ rnd a = ⟨hdN a.r0, 0, 1, 0⟩) ∨ (opn a = -1 ∧ a.r0 ≠ 1 ∧ a.r1 ≠ 1 ∧ rnd a = ⟨a.r0, a.q0 + 1, a.r1, a.q1 + 1⟩) := by
  obtain ⟨r0, q0, r1, q1⟩ := a
  unfold opn rnd tk t1 t2 op hd
  by_cases e0 : r0 = 1
  · exact .inl (by simp [e0])
  · by_cases e1 : r1 = 1
    · exact .inr (.inl (by simp [e0, e1]))
    · by_cases g0 : (r0 = 2 ∧ 4 ≤ q0) ∨ (r0 = 3 ∧ 8 ≤ q0)
      · exact .inl (by simp [e0, e1, g0])
      · by_cases g1 : (r1 = 2 ∧ 4 ≤ q1) ∨ (r1 = 3 ∧ 9 ≤ q1)
        · exact .inr (.inl (by simp [e0, e1, g0, g1]))
        · exact .inr (.inr (by simp [e0, e1, g0, g1]))
/-- In the loop, behind so many of its rounds. -/
def HM (w : World) (s : Nat) (r0 z0 r1 z1 : Int) : Nat → Prop
  | 0 => RowM w s r0 z0 r1 z1
  | 1 => RowM w s (hdN r0) (hZ r0 z0) r1 z1
  | _ => RowM w s (hdN r0) (hZ r0 z0) (hdN r1) (hZ r1 z1)
def WM (w : World) (s : Nat) (r0 z0 r1 z1 : Int) : Nat → Prop
  | 0 => RowM w s r0 z0 r1 z1
  | 1 => RowM w s r0 (wZ r0 z0) r1 z1
  | _ => RowM w s r0 (wZ r0 z0) r1 (wZ r1 z1)
theorem hZ_in {r z : Int} {t : Nat} (h : 0 ≤ z ∧ z ≤ t) : 0 ≤ hZ r z ∧ hZ r z ≤ ((t + 1 : Nat) : Int) := by unfold hZ; split <;> omega
theorem wZ_in {r z : Int} {t : Nat} (h : 0 ≤ z ∧ z ≤ t) : 0 ≤ wZ r z ∧ wZ r z ≤ ((t + 1 : Nat) : Int) := by unfold wZ; split <;> omega
theorem hdN_zero {r z : Int} (h : hdN r = 2 ∨ hdN r = 3) : (0 : Int) = hZ r z := by
  unfold hdN at h
  unfold hZ
  split
  · rfl
  · rename_i g
    exfalso
    split at h <;> omega
theorem wZ_next {r q z : Int} (e : r = 2 ∨ r = 3 → q = z) (h : r = 2 ∨ r = 3) : q + 1 = wZ r z := by
  unfold wZ
  rw [if_pos h, e h]

set_option maxHeartbeats 4000000 in
theorem round_any {w : World} {s t : Nat} {a : A} (P : Pr w s a t) (ht : t ≤ 90000) : Calls Try.prog 12 #[.pointer (some ⟨s, 0, none⟩)] w (CdeedPost w s (opn a) (rnd a) (t + 1)) := by
  have OP := Lib.hid (opener_any P)
  obtain ⟨z0, z1, hr, hv⟩ := P
  have R := Lib.hid hr
  have V := Lib.hid hv
  have v0 := hv.b0
  have v1 := hv.b1

  clear hr hv
  rcases rnd_cases a with ⟨eo, er⟩ | ⟨eo, er⟩ | ⟨eo, g0, g1, er⟩
  · have FIN : Hid (∀ w', HM w' s 1 0 a.r1 z1 2 → Only (fun b => b = s) w w' → CdeedPost w s (opn a) (rnd a) (t + 1) (.returned (.int .i64 0)) w') := Lib.hid fun w' hh oo => ⟨by rw [eo], by rw [er]; exact ⟨_, _, hh, ⟨hZ_in ⟨by decide, by omega⟩, hZ_in V.out.b1, (fun g => absurd g (by show ¬ ((1 : Int) = 2 ∨ (1 : Int) = 3); decide)), fun g => hdN_zero g⟩⟩, oo⟩
    rw [eo] at OP
    clear eo er V v0 v1
    generalize opn a = op_ at *
    generalize rnd a = a' at *
    generalize a.r0 = x0 at *
    generalize a.r1 = x1 at *
    go_enter Try.func12, Try.ntmps12
    go_wp2_with fail
    refine OP.out.mono ?_
    rintro e w1 ⟨rfl, b1⟩
    have R1 := Lib.hid (R.out.below b1)
    have c0 : w1.cell? ⟨s, 0, none⟩ = some (.int .i64 x0) := row_cell R1.out 0
    have c1 : w1.cell? ⟨s, 1, none⟩ = some (.int .i64 z0) := row_cell R1.out 1
    have f0 := row_frozen R1.out 0
    have f1 := row_frozen R1.out 1
    have M0 : Hid (HM ((w1.setCell ⟨s, 0, none⟩ (.int .i64 1)).setCell ⟨s, 1, none⟩ (.int .i64 0)) s 1 0 x1 z1 0) := Lib.hid ((R1.out.set0 1).set1 0)
    have O0 : Hid (Only (fun b => b = s) w ((w1.setCell ⟨s, 0, none⟩ (.int .i64 1)).setCell ⟨s, 1, none⟩ (.int .i64 0))) := Lib.hid (((Only.of_below b1).trans (only_set s 0 _ _) (fun _ _ q => q)).trans (only_set s 1 _ _) (fun _ _ q => q))
    clear R R1 OP b1
    go_wp2
    go_loopw [17] (fun i wr => ∃ k : Nat, k ≤ 2 ∧ i = .int .i64 k ∧ Hid (HM wr s 1 0 x1 z1 k) ∧ Hid (Only (fun b => b = s) w wr)) (fun i _ => 2 - (intOf i).toNat)
    case atStart => exact ⟨0, by omega, rfl, M0, O0⟩
    case round =>
      clear M0 O0 c0 c1 f0 f1
      obtain ⟨k, hk, rfl, M, OO⟩ := hrel
      rcases (by omega : k = 0 ∨ k = 1 ∨ k = 2) with rfl | rfl | rfl
      · have C := Lib.hid (hear0 (show RowM wr s 1 0 x1 z1 from M.out))
        clear M
        go_wp2_with fail
        refine C.out.mono ?_
        rintro e w2 ⟨rfl, m2, o2⟩
        have M2 : Hid (HM w2 s 1 0 x1 z1 1) := Lib.hid m2
        have O2 := Lib.hid (only_two OO.out o2)
        clear m2 o2 C OO
        go_wp2
        go_roundw
        case rel => exact ⟨1, by omega, rfl, M2, O2⟩
        case measure => simp [intOf]
      · have C := Lib.hid (hear1 (show RowM wr s (hdN 1) (hZ 1 0) x1 z1 from M.out))
        clear M
        go_wp2_with fail
        refine C.out.mono ?_
        rintro e w2 ⟨rfl, m2, o2⟩
        have M2 : Hid (HM w2 s 1 0 x1 z1 2) := Lib.hid m2
        have O2 := Lib.hid (only_two OO.out o2)
        clear m2 o2 C OO
        go_wp2
        go_roundw
        case rel => exact ⟨2, by omega, rfl, M2, O2⟩
        case measure => simp [intOf]
      · have F := Lib.hid (FIN.out wr M.out OO.out)
        clear FIN M OO
        go_wp2
        go_ret
        exact F.out
  · have FIN : Hid (∀ w', HM w' s a.r0 z0 1 0 2 → Only (fun b => b = s) w w' → CdeedPost w s (opn a) (rnd a) (t + 1) (.returned (.int .i64 1)) w') := Lib.hid fun w' hh oo => ⟨by rw [eo], by rw [er]; exact ⟨_, _, hh, ⟨hZ_in V.out.b0, hZ_in ⟨by decide, by omega⟩, fun g => hdN_zero g, (fun g => absurd g (by show ¬ ((1 : Int) = 2 ∨ (1 : Int) = 3); decide))⟩⟩, oo⟩
    rw [eo] at OP
    clear eo er V v0 v1
    generalize opn a = op_ at *
    generalize rnd a = a' at *
    generalize a.r0 = x0 at *
    generalize a.r1 = x1 at *
    go_enter Try.func12, Try.ntmps12
    go_wp2_with fail
    refine OP.out.mono ?_
    rintro e w1 ⟨rfl, b1⟩
    have R1 := Lib.hid (R.out.below b1)
    have c0 : w1.cell? ⟨s, 2, none⟩ = some (.int .i64 x1) := row_cell R1.out 2
    have c1 : w1.cell? ⟨s, 3, none⟩ = some (.int .i64 z1) := row_cell R1.out 3
    have f0 := row_frozen R1.out 2
    have f1 := row_frozen R1.out 3
    have M0 : Hid (HM ((w1.setCell ⟨s, 2, none⟩ (.int .i64 1)).setCell ⟨s, 3, none⟩ (.int .i64 0)) s x0 z0 1 0 0) := Lib.hid ((R1.out.set2 1).set3 0)
    have O0 : Hid (Only (fun b => b = s) w ((w1.setCell ⟨s, 2, none⟩ (.int .i64 1)).setCell ⟨s, 3, none⟩ (.int .i64 0))) := Lib.hid (((Only.of_below b1).trans (only_set s 2 _ _) (fun _ _ q => q)).trans (only_set s 3 _ _) (fun _ _ q => q))
    clear R R1 OP b1
    go_wp2
    go_loopw [17] (fun i wr => ∃ k : Nat, k ≤ 2 ∧ i = .int .i64 k ∧ Hid (HM wr s x0 z0 1 0 k) ∧ Hid (Only (fun b => b = s) w wr)) (fun i _ => 2 - (intOf i).toNat)
    case atStart => exact ⟨0, by omega, rfl, M0, O0⟩
    case round =>
      clear M0 O0 c0 c1 f0 f1
      obtain ⟨k, hk, rfl, M, OO⟩ := hrel
      rcases (by omega : k = 0 ∨ k = 1 ∨ k = 2) with rfl | rfl | rfl
      · have C := Lib.hid (hear0 (show RowM wr s x0 z0 1 0 from M.out))
        clear M
        go_wp2_with fail
        refine C.out.mono ?_
        rintro e w2 ⟨rfl, m2, o2⟩
        have M2 : Hid (HM w2 s x0 z0 1 0 1) := Lib.hid m2
        have O2 := Lib.hid (only_two OO.out o2)
        clear m2 o2 C OO
        go_wp2
        go_roundw
        case rel => exact ⟨1, by omega, rfl, M2, O2⟩
        case measure => simp [intOf]
      · have C := Lib.hid (hear1 (show RowM wr s (hdN x0) (hZ x0 z0) 1 0 from M.out))
        clear M
        go_wp2_with fail
        refine C.out.mono ?_
        rintro e w2 ⟨rfl, m2, o2⟩
        have M2 : Hid (HM w2 s x0 z0 1 0 2) := Lib.hid m2
        have O2 := Lib.hid (only_two OO.out o2)
        clear m2 o2 C OO
        go_wp2
        go_roundw
        case rel => exact ⟨2, by omega, rfl, M2, O2⟩
        case measure => simp [intOf]
      · have F := Lib.hid (FIN.out wr M.out OO.out)
        clear FIN M OO
        go_wp2
        go_ret
        exact F.out
  · have FIN : Hid (∀ w', WM w' s a.r0 z0 a.r1 z1 2 → Only (fun b => b = s) w w' → CdeedPost w s (opn a) (rnd a) (t + 1) (.returned (.int .i64 (-1))) w') := Lib.hid fun w' hh oo => ⟨by rw [eo], by rw [er]; exact ⟨_, _, hh, ⟨wZ_in V.out.b0, wZ_in V.out.b1, fun g => wZ_next V.out.e0 g, fun g => wZ_next V.out.e1 g⟩⟩, oo⟩
    rw [eo] at OP
    have V0 : Hid (0 ≤ z0 ∧ z0 ≤ 1000000) := Lib.hid (by omega)
    have V1 : Hid (0 ≤ z1 ∧ z1 ≤ 1000000) := Lib.hid (by omega)
    clear eo er V v0 v1 g0 g1
    generalize opn a = op_ at *
    generalize rnd a = a' at *
    generalize a.r0 = x0 at *
    generalize a.r1 = x1 at *
    go_enter Try.func12, Try.ntmps12
    go_wp2_with fail
    refine OP.out.mono ?_
    rintro e w1 ⟨rfl, b1⟩
    have M0 : Hid (WM w1 s x0 z0 x1 z1 0) := Lib.hid (R.out.below b1)
    have O0 : Hid (Only (fun b => b = s) w w1) := Lib.hid (Only.of_below b1)
    clear R OP b1
    go_wp2
    go_loopw [17] (fun i wr => ∃ k : Nat, k ≤ 2 ∧ i = .int .i64 k ∧ Hid (WM wr s x0 z0 x1 z1 k) ∧ Hid (Only (fun b => b = s) w wr)) (fun i _ => 2 - (intOf i).toNat)
    case atStart => exact ⟨0, by omega, rfl, M0, O0⟩
    case round =>
      clear M0 O0
      obtain ⟨k, hk, rfl, M, OO⟩ := hrel
      rcases (by omega : k = 0 ∨ k = 1 ∨ k = 2) with rfl | rfl | rfl
      · have C := Lib.hid (wait0 (show RowM wr s x0 z0 x1 z1 from M.out) V0.out)
        clear M
        go_wp2_with fail
        refine C.out.mono ?_
        rintro e w2 ⟨rfl, m2, o2⟩
        have M2 : Hid (WM w2 s x0 z0 x1 z1 1) := Lib.hid m2
        have O2 := Lib.hid (only_two OO.out o2)
        clear m2 o2 C OO
        go_wp2
        go_roundw
        case rel => exact ⟨1, by omega, rfl, M2, O2⟩
        case measure => simp [intOf]
      · have C := Lib.hid (wait1 (show RowM wr s x0 (wZ x0 z0) x1 z1 from M.out) V1.out)
        clear M
        go_wp2_with fail
        refine C.out.mono ?_
        rintro e w2 ⟨rfl, m2, o2⟩
        have M2 : Hid (WM w2 s x0 z0 x1 z1 2) := Lib.hid m2
        have O2 := Lib.hid (only_two OO.out o2)
        clear m2 o2 C OO
        go_wp2
        go_roundw
        case rel => exact ⟨2, by omega, rfl, M2, O2⟩
        case measure => simp [intOf]
      · have F := Lib.hid (FIN.out wr M.out OO.out)
        clear FIN M OO
        go_wp2
        go_ret
        exact F.out
theorem round_nil (w : World) : Calls Try.prog 12 #[.pointer none] w fun e w' => e = .returned (.int .i64 (-1)) ∧ Below w.heap.size w w' := by
  go_enter Try.func12, Try.ntmps12
  go_wp2
  go_ret
  exact ⟨rfl, Below.refl _ _⟩

end Go.Proofs.Ytabhpafmppmigaa.Wt
