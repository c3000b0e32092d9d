/- The fixed fact of layer 19. -/
import Derived.Test.YtabhpafmppmigaaWtCode
namespace Go.Proofs.Ytabhpafmppmigaa.Wt
open Go.RowKit
open Go.Proofs.Ytabhpafmppmigaa.Fl (ret_bool at_bool row_cell row_frozen)
open Go.Proofs.Ytabhpafmppmigaa.Fs (Only)

theorem low {w w1 w2 : World} {s : Nat} (b : Below w.heap.size w w1) (o : Only (fun k => k = s) w1 w2) (hs : w.heap.size ≤ s) : Below w.heap.size w w2 := b.trans (o.below b.size fun _ e => e ▸ hs)
theorem Pr.below {w w' : World} {s t : Nat} {a : A} (h : Pr w s a t) (b : Below w.heap.size w w') : Pr w' s a t := h.only (G := fun _ => False) (Only.of_below b) (fun g => g)
/-- One is down, and the other one has been silent for k rounds. -/
def ak (k : Int) : A := ⟨4, k, 2, k⟩
theorem rnd_new : opn new = 0 ∧ rnd new = new := ⟨by decide, rfl⟩
theorem ak_next {k : Int} (h : k < 4) : opn (ak k) = -1 ∧ rnd (ak k) = ak (k + 1) := by
  unfold opn rnd tk t1 t2 op hd ak
  have : ¬ 4 ≤ k := by omega
  simp [this]
theorem ak_end : opn (ak 4) = 1 ∧ rnd (ak 4) = ⟨4, 0, 1, 0⟩ := ⟨by decide, rfl⟩

set_option maxHeartbeats 1000000 in
theorem awake_any (w : World) : Calls Try.prog 15 #[] w fun e w' => e = .returned (.bool true) ∧ Below w.heap.size w w' := by
  have C0 := Lib.hid (new_any w)
  go_enter Try.func15, Try.ntmps15
  go_wp2_with fail
  refine C0.out.mono ?_
  rintro e w1 ⟨s, rfl, p1, hs, b1⟩
  have P1 := Lib.hid p1
  have B1 := Lib.hid b1
  have HS := Lib.hid hs
  have C1 := Lib.hid (round_any p1 (by omega))
  rw [rnd_new.1, rnd_new.2] at C1
  clear C0 p1 b1 hs
  go_wp2_with fail
  refine C1.out.mono ?_
  rintro e w2 ⟨rfl, p2, o2⟩
  have P2 := Lib.hid p2
  have B2 := Lib.hid (low B1.out o2 HS.out)
  have C2 : Hid (Calls Try.prog 8 #[.pointer (some ⟨s, 0, none⟩), .int .i64 0] w2 (CdeedPost w2 s 0 (ak 0) 1)) := Lib.hid (crash_any p2 0)
  clear C1 p2 o2 P1 B1
  go_wp2_with fail
  refine C2.out.mono ?_
  rintro e w3 ⟨rfl, p3, o3⟩
  have P3 := Lib.hid p3
  have B3 := Lib.hid (low B2.out o3 HS.out)
  clear C2 p3 o3 P2 B2
  go_wp2
  go_loopw [4, 5] (fun c i wr => ∃ k : Nat, k ≤ 4 ∧ c = .int .i64 k ∧ i = .int .i64 k ∧ Hid (Pr wr s (ak k) (1 + k)) ∧ Hid (Below w.heap.size w wr)) (fun _ i _ => 4 - (intOf i).toNat)
  case atStart => exact ⟨0, by omega, rfl, rfl, P3, B3⟩
  case round =>
    clear P3 B3
    obtain ⟨k, hk, rfl, rfl, PP, BB⟩ := hrel
    have C3 := Lib.hid (round_any PP.out (by omega))
    by_cases h4 : k < 4
    · rw [(ak_next (k := (k : Int)) (by omega)).1, (ak_next (k := (k : Int)) (by omega)).2] at C3
      go_wp2_with fail
      refine C3.out.mono ?_
      rintro e w4 ⟨rfl, p4, o4⟩
      have P4 : Hid (Pr w4 s (ak ((k + 1 : Nat) : Int)) (1 + (k + 1))) := Lib.hid (by rw [show ((k + 1 : Nat) : Int) = (k : Int) + 1 by omega]; exact p4)
      have B4 := Lib.hid (low BB.out o4 HS.out)
      clear C3 p4 o4 PP BB
      go_wp2
      go_roundw
      case rel => exact ⟨k + 1, by omega, by go_num, by go_num, P4, B4⟩
      case measure => simp [intOf]; omega
    · have e4 : (k : Int) = 4 := by omega
      have C4 : Hid (Calls Try.prog 12 #[.pointer (some ⟨s, 0, none⟩)] wr (CdeedPost wr s 1 ⟨4, 0, 1, 0⟩ (1 + k + 1))) := Lib.hid (by have := C3.out; rw [e4, ak_end.1, ak_end.2] at this; exact this)
      have HK := Lib.hid e4
      have hk20 : (k : Int) < 20 := by omega
      clear C3 PP e4
      go_wp2_with fail
      refine C4.out.mono ?_
      rintro e w4 ⟨rfl, p4, o4⟩
      have P4 := Lib.hid p4
      have B4 := Lib.hid (low BB.out o4 HS.out)
      have C5 : Hid (Calls Try.prog 10 #[.pointer (some ⟨s, 0, none⟩), .int .i64 0] w4 (CdeedPost w4 s 0 ⟨3, 0, 1, 0⟩ (1 + k + 1))) := Lib.hid (restart_any p4 0)
      clear C4 p4 o4 BB
      go_wp2_with fail
      refine C5.out.mono ?_
      rintro e w5 ⟨rfl, p5, o5⟩
      have B5 := Lib.hid (low B4.out o5 HS.out)
      have P5 := Lib.hid p5
      have C6 : Hid (Calls Try.prog 14 #[.pointer (some ⟨s, 0, none⟩), .int .i64 0] w5 fun e w' => e = .returned (.int .i64 3) ∧ Below w5.heap.size w5 w') := Lib.hid (role_any p5 0)
      clear C5 p5 o5 P4 B4
      go_wp2_with fail
      refine C6.out.mono ?_
      rintro e w6 ⟨rfl, b6⟩
      have B6 := Lib.hid (B5.out.trans (b6.mono B5.out.size))
      have P6 := Lib.hid (P5.out.below b6)
      have C7 : Hid (Calls Try.prog 12 #[.pointer (some ⟨s, 0, none⟩)] w6 (CdeedPost w6 s 1 ⟨2, 0, 1, 0⟩ (1 + k + 1 + 1))) := Lib.hid (round_any P6.out (by omega))
      clear C6 b6 P5 B5
      go_wp2_with fail
      refine C7.out.mono ?_
      rintro e w7 ⟨rfl, p7, o7⟩
      have B7 := Lib.hid (low B6.out o7 HS.out)
      have P7 := Lib.hid p7
      have C8 : Hid (Calls Try.prog 14 #[.pointer (some ⟨s, 0, none⟩), .int .i64 0] w7 fun e w' => e = .returned (.int .i64 2) ∧ Below w7.heap.size w7 w') := Lib.hid (role_any p7 0)
      have q4 : ((k : Int) == 4) = true := beq_iff_eq.2 HK.out
      have q4' : decide ((k : Int) = 4) = true := decide_eq_true HK.out
      clear C7 p7 o7 P6 B6
      go_wp2_with fail
      refine C8.out.mono ?_
      rintro e w8 ⟨rfl, b8⟩
      have B8 := Lib.hid (B7.out.trans (b8.mono B7.out.size))
      have P8 := Lib.hid (P7.out.below b8)
      have C9 : Hid (Calls Try.prog 14 #[.pointer (some ⟨s, 0, none⟩), .int .i64 1] w8 fun e w' => e = .returned (.int .i64 1) ∧ Below w8.heap.size w8 w') := Lib.hid (role_any P8.out 1)
      clear C8 b8 P7 B7
      go_wp2_with fail
      refine C9.out.mono ?_
      rintro e w9 ⟨rfl, b9⟩
      have B9 := Lib.hid (B8.out.trans (b9.mono B8.out.size))
      have P9 := Lib.hid (P8.out.below b9)
      have C10 : Hid (Calls Try.prog 8 #[.pointer (some ⟨s, 0, none⟩), .int .i64 2] w9 (CdeedPost w9 s 1 ⟨2, 0, 1, 0⟩ (1 + k + 1 + 1))) := Lib.hid (crash_any P9.out 2)
      clear C9 b9 P8 B8
      go_wp2_with fail
      refine C10.out.mono ?_
      rintro e w10 ⟨rfl, p10, o10⟩
      have B10 := Lib.hid (low B9.out o10 HS.out)
      clear C10 p10 o10 P9 B9
      go_wp2
      go_ret
      exact ⟨rfl, B10.out⟩

end Go.Proofs.Ytabhpafmppmigaa.Wt
