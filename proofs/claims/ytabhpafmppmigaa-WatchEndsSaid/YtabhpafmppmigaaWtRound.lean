/- The document's Round of two masters. -/
import Derived.Test.YtabhpafmppmigaaWtRef
namespace Go.Proofs.Ytabhpafmppmigaa.Wt
open Go.RowKit
open Go.Proofs.Ytabhpafmppmigaa.Fl (ret_bool at_bool row_cell row_frozen)
open Go.Proofs.Ytabhpafmppmigaa.Fs (Only)
attribute [local irreducible] Sd.wpSd wpQuiet

def RoundPost (w : World) (r : Nat) (a : A) (t : Nat) (e : Ending) (w' : World) : Prop := e = .returned (.int .i64 (opn a)) ∧ Pf w' r (rnd a) (t + 1) ∧ Only (fun b => b = r) w w'
/-- Behind so many rounds of the first loop. -/
def st (a : A) : Nat → A
  | 0 => a
  | 1 => t1 a
  | _ => tk a
def due0 (b : A) : Prop := (b.r0 = 2 ∧ 4 ≤ b.q0) ∨ (b.r0 = 3 ∧ 8 ≤ b.q0)
def due1 (b : A) : Prop := (b.r1 = 2 ∧ 4 ≤ b.q1) ∨ (b.r1 = 3 ∧ 9 ≤ b.q1)
instance (b : A) : Decidable (due0 b) := by unfold due0; infer_instance
instance (b : A) : Decidable (due1 b) := by unfold due1; infer_instance
theorem t1_no {b : A} (h : ¬ (b.r0 ≠ 1 ∧ b.r1 ≠ 1 ∧ due0 b)) : t1 b = b := if_neg h
theorem t1_yes {b : A} (h : b.r0 ≠ 1 ∧ b.r1 ≠ 1 ∧ due0 b) : t1 b = { b with r0 := 1 } := if_pos h
theorem t2_no {b : A} (h : ¬ (b.r0 ≠ 1 ∧ b.r1 ≠ 1 ∧ due1 b)) : t2 b = b := if_neg h
theorem t2_yes {b : A} (h : b.r0 ≠ 1 ∧ b.r1 ≠ 1 ∧ due1 b) : t2 b = { b with r1 := 1 } := if_pos h
/-- The state in memory, in the first loop. -/
def At1 (w : World) (r : Nat) (b : A) (n la : Int) (t : Nat) : Prop := ∃ s0 s1, RowP w r b.r0 b.r1 s0 s1 n la ∧ Vf b s0 s1 n la t
theorem At1.below {w w' : World} {r t : Nat} {b : A} {n la : Int} (h : At1 w r b n la t) (bb : Below w.heap.size w w') : At1 w' r b n la t := by
  obtain ⟨s0, s1, hr, hv⟩ := h
  exact ⟨s0, s1, hr.only (Only.of_below (G := fun _ => False) bb) (fun g => g), hv⟩
theorem At1.take0 {w : World} {r t : Nat} {b : A} {n la : Int} (h : At1 w r b n la t) : At1 ((w.setCell ⟨r, 0, none⟩ (.int .i64 1)).setCell ⟨r, 2, none⟩ (.int .i64 n)) r { b with r0 := 1 } n la t := by
  obtain ⟨s0, s1, hr, hv⟩ := h
  exact ⟨n, s1, (hr.set0 1).set2 n, ⟨⟨by have := hv.bl; omega, Int.le_refl _⟩, hv.b1, hv.bl, hv.bn, (fun g => absurd g (by show ¬ ((1 : Int) = 2 ∨ (1 : Int) = 3); decide)), hv.e1⟩⟩
theorem At1.take1 {w : World} {r t : Nat} {b : A} {n la : Int} (h : At1 w r b n la t) : At1 ((w.setCell ⟨r, 1, none⟩ (.int .i64 1)).setCell ⟨r, 3, none⟩ (.int .i64 n)) r { b with r1 := 1 } n la t := by
  obtain ⟨s0, s1, hr, hv⟩ := h
  exact ⟨s0, n, (hr.set1 1).set3 n, ⟨hv.b0, ⟨by have := hv.bl; omega, Int.le_refl _⟩, hv.bl, hv.bn, hv.e0, (fun g => absurd g (by show ¬ ((1 : Int) = 2 ∨ (1 : Int) = 3); decide))⟩⟩
section
variable {T : A} {s0 s1 n la : Int} {t : Nat} (hv : Vf T s0 s1 n la t)
include hv
theorem Vf.none : Vf ⟨T.r0, T.q0 + 1, T.r1, T.q1 + 1⟩ s0 s1 (n + 1) la (t + 1) := by
  have b0 := hv.b0
  have b1 := hv.b1
  have bl := hv.bl
  have bn := hv.bn
  exact ⟨by omega, by omega, by omega, by omega, fun g => by have := hv.e0 g; show T.q0 + 1 = _; omega, fun g => by have := hv.e1 g; show T.q1 + 1 = _; omega⟩
theorem Vf.open0 (x : Int) : Vf ⟨1, x, T.r1, 0⟩ s0 s1 (n + 1) (n + 1) (t + 1) := by
  have b0 := hv.b0
  have b1 := hv.b1
  have bl := hv.bl
  have bn := hv.bn
  exact ⟨by omega, by omega, by omega, by omega, (fun g => absurd g (by show ¬ ((1 : Int) = 2 ∨ (1 : Int) = 3); decide)), fun g => by show (0 : Int) = n + 1 - (if s1 < n + 1 then n + 1 else s1); rw [if_pos (by omega)]; omega⟩
theorem Vf.open1 (x : Int) : Vf ⟨T.r0, 0, 1, x⟩ s0 s1 (n + 1) (n + 1) (t + 1) := by
  have b0 := hv.b0
  have b1 := hv.b1
  have bl := hv.bl
  have bn := hv.bn
  exact ⟨by omega, by omega, by omega, by omega, fun g => by show (0 : Int) = n + 1 - (if s0 < n + 1 then n + 1 else s0); rw [if_pos (by omega)]; omega, (fun g => absurd g (by show ¬ ((1 : Int) = 2 ∨ (1 : Int) = 3); decide))⟩
theorem Vf.hear0 (x : Int) : Vf ⟨1, x, 2, 0⟩ s0 (n + 1) (n + 1) (n + 1) (t + 1) := by
  have b0 := hv.b0
  have bl := hv.bl
  have bn := hv.bn
  exact ⟨by omega, by omega, by omega, by omega, (fun g => absurd g (by show ¬ ((1 : Int) = 2 ∨ (1 : Int) = 3); decide)), fun g => by show (0 : Int) = n + 1 - (if n + 1 < n + 1 then n + 1 else n + 1); rw [if_neg (by omega)]; omega⟩
theorem Vf.hear1 (x : Int) : Vf ⟨2, 0, 1, x⟩ (n + 1) s1 (n + 1) (n + 1) (t + 1) := by
  have b1 := hv.b1
  have bl := hv.bl
  have bn := hv.bn
  exact ⟨by omega, by omega, by omega, by omega, fun g => by show (0 : Int) = n + 1 - (if n + 1 < n + 1 then n + 1 else n + 1); rw [if_neg (by omega)]; omega, (fun g => absurd g (by show ¬ ((1 : Int) = 2 ∨ (1 : Int) = 3); decide))⟩
end
/-- The end of a round: what each way out leaves. -/
structure Fin_ (w : World) (r : Nat) (a : A) (t : Nat) (s0 s1 n la : Int) : Prop where
  none : (tk a).r0 ≠ 1 → (tk a).r1 ≠ 1 → ∀ w', RowP w' r (tk a).r0 (tk a).r1 s0 s1 (n + 1) la → Only (fun b => b = r) w w' → RoundPost w r a t (.returned (.int .i64 (-1))) w'
  open0 : (tk a).r0 = 1 → (tk a).r1 ≠ 3 → ∀ w', RowP w' r (tk a).r0 (tk a).r1 s0 s1 (n + 1) (n + 1) → Only (fun b => b = r) w w' → RoundPost w r a t (.returned (.int .i64 0)) w'
  hear0 : (tk a).r0 = 1 → (tk a).r1 = 3 → ∀ w', RowP w' r (tk a).r0 2 s0 (n + 1) (n + 1) (n + 1) → Only (fun b => b = r) w w' → RoundPost w r a t (.returned (.int .i64 0)) w'
  open1 : (tk a).r0 ≠ 1 → (tk a).r1 = 1 → (tk a).r0 ≠ 3 → ∀ w', RowP w' r (tk a).r0 (tk a).r1 s0 s1 (n + 1) (n + 1) → Only (fun b => b = r) w w' → RoundPost w r a t (.returned (.int .i64 1)) w'
  hear1 : (tk a).r0 ≠ 1 → (tk a).r1 = 1 → (tk a).r0 = 3 → ∀ w', RowP w' r 2 (tk a).r1 (n + 1) s1 (n + 1) (n + 1) → Only (fun b => b = r) w w' → RoundPost w r a t (.returned (.int .i64 1)) w'
theorem fin_of {w : World} {r t : Nat} {a : A} {s0 s1 n la : Int} (hv : Vf (tk a) s0 s1 n la t) : Fin_ w r a t s0 s1 n la := by
  have eo : opn a = op (tk a) := rfl
  have er : rnd a = hd (tk a) := rfl
  refine ⟨fun h0 h1 w' hr oo => ?_, fun h0 h3 w' hr oo => ?_, fun h0 h3 w' hr oo => ?_, fun h0 h1 h3 w' hr oo => ?_, fun h0 h1 h3 w' hr oo => ?_⟩
  · have e1 : op (tk a) = -1 := by unfold op; rw [if_neg h0, if_neg h1]
    have e2 : hd (tk a) = ⟨(tk a).r0, (tk a).q0 + 1, (tk a).r1, (tk a).q1 + 1⟩ := by unfold hd; rw [if_neg h0, if_neg h1]
    exact ⟨by rw [eo, e1], by rw [er, e2]; exact ⟨_, _, _, _, hr, hv.none⟩, oo⟩
  · have e1 : op (tk a) = 0 := if_pos h0
    have e2 : hd (tk a) = ⟨1, 0, (tk a).r1, 0⟩ := by unfold hd hdN; rw [if_pos h0, if_neg h3]
    rw [h0] at hr
    exact ⟨by rw [eo, e1], by rw [er, e2]; exact ⟨_, _, _, _, hr, hv.open0 0⟩, oo⟩
  · have e1 : op (tk a) = 0 := if_pos h0
    have e2 : hd (tk a) = ⟨1, 0, 2, 0⟩ := by unfold hd hdN; rw [if_pos h0, if_pos h3]
    rw [h0] at hr
    exact ⟨by rw [eo, e1], by rw [er, e2]; exact ⟨_, _, _, _, hr, hv.hear0 0⟩, oo⟩
  · have e1 : op (tk a) = 1 := by unfold op; rw [if_neg h0, if_pos h1]
    have e2 : hd (tk a) = ⟨(tk a).r0, 0, 1, 0⟩ := by unfold hd hdN; rw [if_neg h0, if_pos h1, if_neg h3]
    rw [h1] at hr
    exact ⟨by rw [eo, e1], by rw [er, e2]; exact ⟨_, _, _, _, hr, hv.open1 0⟩, oo⟩
  · have e1 : op (tk a) = 1 := by unfold op; rw [if_neg h0, if_pos h1]
    have e2 : hd (tk a) = ⟨2, 0, 1, 0⟩ := by unfold hd hdN; rw [if_neg h0, if_pos h1, if_pos h3]
    rw [h1] at hr
    exact ⟨by rw [eo, e1], by rw [er, e2]; exact ⟨_, _, _, _, hr, hv.hear1 0⟩, oo⟩

set_option maxHeartbeats 8000000 in
set_option maxRecDepth 100000 in
theorem rround_any {w : World} {r t : Nat} {a : A} (P : Pf w r a t) (ht : t ≤ 90000) : Calls Try.prog 13 #[.pointer (some ⟨r, 0, none⟩)] w (RoundPost w r a t) := by
  obtain ⟨s0, s1, n, la, hr, hv⟩ := P
  have A0 : Hid (At1 w r (st a 0) n la t) := Lib.hid ⟨s0, s1, hr, hv⟩
  have bl := hv.bl
  have bn := hv.bn
  clear hr hv
  go_enter Try.func13, Try.ntmps13
  go_wp2
  go_loopw [3] (fun i wr => ∃ k : Nat, k ≤ 2 ∧ i = .int .i64 k ∧ Hid (At1 wr r (st a k) n la t) ∧ Hid (Only (fun b => b = r) w wr)) (fun i _ => 2 - (intOf i).toNat)
  case atStart => exact ⟨0, by omega, rfl, A0, Lib.hid (Only.refl _ _)⟩
  case round =>
    clear A0
    obtain ⟨k, hk, rfl, M, OO⟩ := hrel
    rcases (by omega : k = 0 ∨ k = 1 ∨ k = 2) with rfl | rfl | rfl
    · have ST : Hid (st a 1 = t1 (st a 0)) := Lib.hid rfl
      generalize st a 0 = b at *
      obtain ⟨s0, s1, hr, hv⟩ := M.out
      have c0 : wr.cell? ⟨r, 0, none⟩ = some (.int .i64 b.r0) := row_cell hr 0
      have c1 : wr.cell? ⟨r, 1, none⟩ = some (.int .i64 b.r1) := row_cell hr 1
      have CS := Lib.hid (silent0 hr ⟨hv.b0, hv.bl, by have := hv.bn; omega⟩)
      have Q := Lib.hid (show (b.r0 = 2 ∨ b.r0 = 3) → b.q0 = sil s0 n la from hv.e0)
      generalize sil s0 n la = q at *
      have HD : Hid (decide (due0 b) = true ↔ ((b.r0 = 2 ∧ 4 ≤ b.q0) ∨ (b.r0 = 3 ∧ 8 ≤ b.q0))) := Lib.hid decide_eq_true_iff
      generalize hd_ : decide (due0 b) = d at *
      have HDD := Lib.hid hd_
      clear hd_ hr hv
      go_upto_region 4 with fail
      go_cut [4] from 6 to 70 (fun v wx => Value.bool d = v ∧ Hid (Below wr.heap.size wr wx))
      case first =>
        clear M OO ST HDD
        generalize b.r0 = x0 at *
        generalize b.r1 = x1 at *
        generalize b.q0 = y at *
        by_cases h2 : x0 = 2
        · have e := Q.out (.inl h2)
          have D := HD.out
          rw [e] at D
          by_cases h4 : 4 ≤ q
          · have E := Lib.hid (D.2 (.inl ⟨h2, h4⟩))
            clear D e HD Q
            subst h2
            go_wp2_with fail
            refine CS.out.mono ?_
            rintro e w1 ⟨rfl, b1⟩
            have B1 := Lib.hid b1
            clear b1 CS
            go_wp2
            go_meet
            exact ⟨congrArg Value.bool E.out, B1⟩
          · have E : Hid (d = false) := Lib.hid (Bool.eq_false_iff.2 fun g => by have := D.1 g; omega)
            clear D e HD Q
            subst h2
            go_wp2_with fail
            refine CS.out.mono ?_
            rintro e w1 ⟨rfl, b1⟩
            have c0 := (b1.cell (World.block_lt_of_cell? _ _ c0)).trans c0
            have c1 := (b1.cell (World.block_lt_of_cell? _ _ c1)).trans c1
            have B1 := Lib.hid b1
            clear b1 CS
            go_wp2
            go_meet
            exact ⟨congrArg Value.bool (E.out.trans (decide_eq_false (by omega)).symm), B1⟩
        · by_cases h3 : x0 = 3
          · have e := Q.out (.inr h3)
            have D := HD.out
            rw [e] at D
            by_cases h4 : 8 ≤ q
            · have E := Lib.hid (D.2 (.inr ⟨h3, h4⟩))
              clear D e HD Q h2
              subst h3
              go_wp2_with fail
              refine CS.out.mono ?_
              rintro e w1 ⟨rfl, b1⟩
              have B1 := Lib.hid b1
              clear b1 CS
              go_wp2
              go_meet
              exact ⟨congrArg Value.bool E.out, B1⟩
            · have E : Hid (d = false) := Lib.hid (Bool.eq_false_iff.2 fun g => by have := D.1 g; omega)
              clear D e HD Q h2
              subst h3
              go_wp2_with fail
              refine CS.out.mono ?_
              rintro e w1 ⟨rfl, b1⟩
              have B1 := Lib.hid b1
              clear b1 CS
              go_wp2
              go_meet
              exact ⟨congrArg Value.bool (E.out.trans (decide_eq_false (by omega)).symm), B1⟩
          · have E : Hid (d = false) := Lib.hid (Bool.eq_false_iff.2 fun g => by have := HD.out.1 g; omega)
            have q2 : (x0 == 2) = false := beq_eq_false_iff_ne.2 h2
            have q3 : (x0 == 3) = false := beq_eq_false_iff_ne.2 h3
            clear HD Q CS
            go_wp2
            go_meet
            exact ⟨congrArg Value.bool E.out, Lib.hid (Below.refl _ _)⟩
      case rest =>
        obtain ⟨e1, B1⟩ := hcut
        subst e1
        have M1 := Lib.hid (M.out.below B1.out)
        have O1 := Lib.hid (OO.out.then B1.out)
        clear c0 c1 CS Q M OO B1
        cases d with
        | false =>
          have SB : Hid (st a 1 = b) := Lib.hid (ST.out.trans (t1_no fun g => absurd g.2.2 (of_decide_eq_false HDD.out)))
          clear HD HDD ST
          go_wp2
          go_roundw
          case rel => exact ⟨1, by omega, by go_num, Lib.hid (by rw [SB.out]; exact M1.out), O1⟩
          case measure => simp [intOf]
        | true =>
          obtain ⟨s0', s1', hr, hv⟩ := M1.out
          have hne : b.r0 ≠ 1 := by have := HD.out.1 rfl; omega
          by_cases h1 : b.r1 = 1
          · have SB : Hid (st a 1 = b) := Lib.hid (ST.out.trans (t1_no fun g => g.2.1 h1))
            have c0 : wc.cell? ⟨r, 0, none⟩ = some (.int .i64 b.r0) := row_cell hr 0
            have c1 : wc.cell? ⟨r, 1, none⟩ = some (.int .i64 b.r1) := row_cell hr 1
            have q1 : (b.r1 != 1) = false := by rw [h1]; rfl
            have q2 : (b.r0 != 1) = true := bne_iff_ne.2 hne
            have M2 : Hid (At1 wc r (st a 1) n la t) := Lib.hid (by rw [SB.out]; exact M1.out)
            clear HD HDD ST hr hv h1 hne M1 SB
            generalize b.r0 = x0 at *
            generalize b.r1 = x1 at *
            go_wp2
            go_roundw
            case rel => exact ⟨1, by omega, by go_num, M2, O1⟩
            case measure => simp [intOf]
          · have SB : Hid (st a 1 = { b with r0 := 1 }) := Lib.hid (ST.out.trans (t1_yes ⟨hne, h1, by have := HDD.out; exact of_decide_eq_true this⟩))
            have c0 : wc.cell? ⟨r, 0, none⟩ = some (.int .i64 b.r0) := row_cell hr 0
            have c1 : wc.cell? ⟨r, 1, none⟩ = some (.int .i64 b.r1) := row_cell hr 1
            have q1 : (b.r1 != 1) = true := bne_iff_ne.2 h1
            have q2 : (b.r0 != 1) = true := bne_iff_ne.2 hne
            have FIN : Hid (∀ W : World, Only (fun b => b = r) w W → At1 W r b n la t → At1 ((W.setCell ⟨r, 0, none⟩ (.int .i64 1)).setCell ⟨r, 2, none⟩ (.int .i64 n)) r (st a 1) n la t ∧ Only (fun b => b = r) w ((W.setCell ⟨r, 0, none⟩ (.int .i64 1)).setCell ⟨r, 2, none⟩ (.int .i64 n))) := Lib.hid (fun W oo h => ⟨by rw [SB.out]; exact h.take0, only_two oo (only_two (only_set r 0 W _) (only_set r 2 _ _))⟩)
            have R0 := Lib.hid hr
            clear HD HDD ST hv h1 hne SB hr
            go_upto_region 6 with fail
            clear c0 c1
            have C0 : wc.drew.cell? ⟨r, 4, none⟩ = some (.int .i64 n) := row_cell (show RowP wc.drew r b.r0 b.r1 s0' s1' n la from R0.out) 4
            have Rd : Hid (RowP wc.drew r b.r0 b.r1 s0' s1' n la) := Lib.hid R0.out
            have E := Lib.hid (FIN.out wc.drew (O1.out.then (Below.refl _ _).drew) (M1.out.below (Below.refl _ _).drew))
            clear FIN R0 O1 M1
            have c4 := Sc.cell_in (C := fun W => W.cell? ⟨r, 4, none⟩ = some (.int .i64 n)) (a := ⟨r, 4, none⟩) (fun W h => h)
            have ne : Nonempty (Sc.In (fun W => W.cell? ⟨r, 4, none⟩ = some (.int .i64 n))) := ⟨⟨_, C0⟩⟩
            generalize b.r0 = x0 at *
            generalize b.r1 = x1 at *
            refine Sc.start (fun W => W.cell? ⟨r, 4, none⟩ = some (.int .i64 n)) [(false, 0), (false, 1), (false, 2), (false, 3), (false, 4), (false, 5), (false, 6), (false, 7), (false, 8), (false, 9), (false, 10), (false, 12), (false, 13), (true, 11), (false, 14), (true, 15)] (by kernel_rfl) (by kernel_rfl) (by kernel_rfl) C0 ?_
            dsimp only [Sd.picks, List.getElem?_cons_succ, List.getElem?_cons_zero]
            repeat (refine Sd.lit ?_; quiet_step (fail); refine wpQuiet_nil ?_)
            clear c4
            generalize wc.drew = W at *
            refine Sd.call (by rfl) (fun K hK => ?_)
            have d0 : W.cell? ⟨r, 0, none⟩ = some (.int .i64 x0) := row_cell Rd.out 0
            have g0 := row_frozen Rd.out 0
            have R1 : Hid (RowP (W.setCell ⟨r, 0, none⟩ (.int .i64 1)) r 1 x1 s0' s1' n la) := Lib.hid (Rd.out.set0 1)
            clear Rd C0
            go_simp
            refine hK _ _ (Sc.Cl.of (row_cell R1.out 4)) ?_
            clear hK K d0 g0
            generalize W.setCell ⟨r, 0, none⟩ (.int .i64 1) = W1 at *
            repeat (refine Sd.lit ?_; quiet_step (fail); refine wpQuiet_nil ?_)
            refine Sd.call (by rfl) (fun K hK => ?_)
            have d0 : W1.cell? ⟨r, 2, none⟩ = some (.int .i64 s0') := row_cell R1.out 2
            have g0 := row_frozen R1.out 2
            have R2 := Lib.hid (row_cell (R1.out.set2 n) 4)
            clear R1
            go_simp
            refine hK _ _ (Sc.Cl.of R2.out) ?_
            clear hK K d0 g0 R2 ne
            generalize W1.setCell ⟨r, 2, none⟩ (.int .i64 n) = W2 at *
            refine Sd.done ?_
            go_wp2
            go_roundw
            case rel => exact ⟨1, by omega, by go_num, Lib.hid E.out.1, Lib.hid E.out.2⟩
            case measure => simp [intOf]
    · have ST : Hid (st a 2 = t2 (st a 1)) := Lib.hid rfl
      generalize st a 1 = b at *
      obtain ⟨s0, s1, hr, hv⟩ := M.out
      have c0 : wr.cell? ⟨r, 0, none⟩ = some (.int .i64 b.r0) := row_cell hr 0
      have c1 : wr.cell? ⟨r, 1, none⟩ = some (.int .i64 b.r1) := row_cell hr 1
      have CS := Lib.hid (silent1 hr ⟨hv.b1, hv.bl, by have := hv.bn; omega⟩)
      have Q := Lib.hid (show (b.r1 = 2 ∨ b.r1 = 3) → b.q1 = sil s1 n la from hv.e1)
      generalize sil s1 n la = q at *
      have HD : Hid (decide (due1 b) = true ↔ ((b.r1 = 2 ∧ 4 ≤ b.q1) ∨ (b.r1 = 3 ∧ 9 ≤ b.q1))) := Lib.hid decide_eq_true_iff
      generalize hd_ : decide (due1 b) = d at *
      have HDD := Lib.hid hd_
      clear hd_ hr hv
      go_upto_region 4 with fail
      go_cut [4] from 6 to 70 (fun v wx => Value.bool d = v ∧ Hid (Below wr.heap.size wr wx))
      case first =>
        clear M OO ST HDD
        generalize b.r0 = x0 at *
        generalize b.r1 = x1 at *
        generalize b.q1 = y at *
        by_cases h2 : x1 = 2
        · have e := Q.out (.inl h2)
          have D := HD.out
          rw [e] at D
          by_cases h4 : 4 ≤ q
          · have E := Lib.hid (D.2 (.inl ⟨h2, h4⟩))
            clear D e HD Q
            subst h2
            go_wp2_with fail
            refine CS.out.mono ?_
            rintro e w1 ⟨rfl, b1⟩
            have B1 := Lib.hid b1
            clear b1 CS
            go_wp2
            go_meet
            exact ⟨congrArg Value.bool E.out, B1⟩
          · have E : Hid (d = false) := Lib.hid (Bool.eq_false_iff.2 fun g => by have := D.1 g; omega)
            clear D e HD Q
            subst h2
            go_wp2_with fail
            refine CS.out.mono ?_
            rintro e w1 ⟨rfl, b1⟩
            have c0 := (b1.cell (World.block_lt_of_cell? _ _ c0)).trans c0
            have c1 := (b1.cell (World.block_lt_of_cell? _ _ c1)).trans c1
            have B1 := Lib.hid b1
            clear b1 CS
            go_wp2
            go_meet
            exact ⟨congrArg Value.bool (E.out.trans (decide_eq_false (by omega)).symm), B1⟩
        · by_cases h3 : x1 = 3
          · have e := Q.out (.inr h3)
            have D := HD.out
            rw [e] at D
            by_cases h4 : 9 ≤ q
            · have E := Lib.hid (D.2 (.inr ⟨h3, h4⟩))
              clear D e HD Q h2
              subst h3
              go_wp2_with fail
              refine CS.out.mono ?_
              rintro e w1 ⟨rfl, b1⟩
              have B1 := Lib.hid b1
              clear b1 CS
              go_wp2
              go_meet
              exact ⟨congrArg Value.bool E.out, B1⟩
            · have E : Hid (d = false) := Lib.hid (Bool.eq_false_iff.2 fun g => by have := D.1 g; omega)
              clear D e HD Q h2
              subst h3
              go_wp2_with fail
              refine CS.out.mono ?_
              rintro e w1 ⟨rfl, b1⟩
              have B1 := Lib.hid b1
              clear b1 CS
              go_wp2
              go_meet
              exact ⟨congrArg Value.bool (E.out.trans (decide_eq_false (by omega)).symm), B1⟩
          · have E : Hid (d = false) := Lib.hid (Bool.eq_false_iff.2 fun g => by have := HD.out.1 g; omega)
            have q2 : (x1 == 2) = false := beq_eq_false_iff_ne.2 h2
            have q3 : (x1 == 3) = false := beq_eq_false_iff_ne.2 h3
            clear HD Q CS
            go_wp2
            go_meet
            exact ⟨congrArg Value.bool E.out, Lib.hid (Below.refl _ _)⟩
      case rest =>
        obtain ⟨e1, B1⟩ := hcut
        subst e1
        have M1 := Lib.hid (M.out.below B1.out)
        have O1 := Lib.hid (OO.out.then B1.out)
        clear c0 c1 CS Q M OO B1
        cases d with
        | false =>
          have SB : Hid (st a 2 = b) := Lib.hid (ST.out.trans (t2_no fun g => absurd g.2.2 (of_decide_eq_false HDD.out)))
          clear HD HDD ST
          go_wp2
          go_roundw
          case rel => exact ⟨2, by omega, by go_num, Lib.hid (by rw [SB.out]; exact M1.out), O1⟩
          case measure => simp [intOf]
        | true =>
          obtain ⟨s0', s1', hr, hv⟩ := M1.out
          have hne : b.r1 ≠ 1 := by have := HD.out.1 rfl; omega
          by_cases h1 : b.r0 = 1
          · have SB : Hid (st a 2 = b) := Lib.hid (ST.out.trans (t2_no fun g => g.1 h1))
            have c0 : wc.cell? ⟨r, 0, none⟩ = some (.int .i64 b.r0) := row_cell hr 0
            have c1 : wc.cell? ⟨r, 1, none⟩ = some (.int .i64 b.r1) := row_cell hr 1
            have q1 : (b.r0 != 1) = false := by rw [h1]; rfl
            have q2 : (b.r1 != 1) = true := bne_iff_ne.2 hne
            have M2 : Hid (At1 wc r (st a 2) n la t) := Lib.hid (by rw [SB.out]; exact M1.out)
            clear HD HDD ST hr hv h1 hne M1 SB
            generalize b.r0 = x0 at *
            generalize b.r1 = x1 at *
            go_wp2
            go_roundw
            case rel => exact ⟨2, by omega, by go_num, M2, O1⟩
            case measure => simp [intOf]
          · have SB : Hid (st a 2 = { b with r1 := 1 }) := Lib.hid (ST.out.trans (t2_yes ⟨h1, hne, by have := HDD.out; exact of_decide_eq_true this⟩))
            have c0 : wc.cell? ⟨r, 0, none⟩ = some (.int .i64 b.r0) := row_cell hr 0
            have c1 : wc.cell? ⟨r, 1, none⟩ = some (.int .i64 b.r1) := row_cell hr 1
            have q1 : (b.r0 != 1) = true := bne_iff_ne.2 h1
            have q2 : (b.r1 != 1) = true := bne_iff_ne.2 hne
            have FIN : Hid (∀ W : World, Only (fun b => b = r) w W → At1 W r b n la t → At1 ((W.setCell ⟨r, 1, none⟩ (.int .i64 1)).setCell ⟨r, 3, none⟩ (.int .i64 n)) r (st a 2) n la t ∧ Only (fun b => b = r) w ((W.setCell ⟨r, 1, none⟩ (.int .i64 1)).setCell ⟨r, 3, none⟩ (.int .i64 n))) := Lib.hid (fun W oo h => ⟨by rw [SB.out]; exact h.take1, only_two oo (only_two (only_set r 1 W _) (only_set r 3 _ _))⟩)
            have R0 := Lib.hid hr
            clear HD HDD ST hv h1 hne SB hr
            go_upto_region 6 with fail
            clear c0 c1
            have C0 : wc.drew.cell? ⟨r, 4, none⟩ = some (.int .i64 n) := row_cell (show RowP wc.drew r b.r0 b.r1 s0' s1' n la from R0.out) 4
            have Rd : Hid (RowP wc.drew r b.r0 b.r1 s0' s1' n la) := Lib.hid R0.out
            have E := Lib.hid (FIN.out wc.drew (O1.out.then (Below.refl _ _).drew) (M1.out.below (Below.refl _ _).drew))
            clear FIN R0 O1 M1
            have c4 := Sc.cell_in (C := fun W => W.cell? ⟨r, 4, none⟩ = some (.int .i64 n)) (a := ⟨r, 4, none⟩) (fun W h => h)
            have ne : Nonempty (Sc.In (fun W => W.cell? ⟨r, 4, none⟩ = some (.int .i64 n))) := ⟨⟨_, C0⟩⟩
            generalize b.r0 = x0 at *
            generalize b.r1 = x1 at *
            refine Sc.start (fun W => W.cell? ⟨r, 4, none⟩ = some (.int .i64 n)) [(false, 0), (false, 1), (false, 2), (false, 3), (false, 4), (false, 5), (false, 6), (false, 7), (false, 8), (false, 9), (false, 10), (false, 12), (false, 13), (true, 11), (false, 14), (true, 15)] (by kernel_rfl) (by kernel_rfl) (by kernel_rfl) C0 ?_
            dsimp only [Sd.picks, List.getElem?_cons_succ, List.getElem?_cons_zero]
            repeat (refine Sd.lit ?_; quiet_step (fail); refine wpQuiet_nil ?_)
            clear c4
            generalize wc.drew = W at *
            refine Sd.call (by rfl) (fun K hK => ?_)
            have d0 : W.cell? ⟨r, 1, none⟩ = some (.int .i64 x1) := row_cell Rd.out 1
            have g0 := row_frozen Rd.out 1
            have R1 : Hid (RowP (W.setCell ⟨r, 1, none⟩ (.int .i64 1)) r x0 1 s0' s1' n la) := Lib.hid (Rd.out.set1 1)
            clear Rd C0
            go_simp
            refine hK _ _ (Sc.Cl.of (row_cell R1.out 4)) ?_
            clear hK K d0 g0
            generalize W.setCell ⟨r, 1, none⟩ (.int .i64 1) = W1 at *
            repeat (refine Sd.lit ?_; quiet_step (fail); refine wpQuiet_nil ?_)
            refine Sd.call (by rfl) (fun K hK => ?_)
            have d0 : W1.cell? ⟨r, 3, none⟩ = some (.int .i64 s1') := row_cell R1.out 3
            have g0 := row_frozen R1.out 3
            have R2 := Lib.hid (row_cell (R1.out.set3 n) 4)
            clear R1
            go_simp
            refine hK _ _ (Sc.Cl.of R2.out) ?_
            clear hK K d0 g0 R2 ne
            generalize W1.setCell ⟨r, 3, none⟩ (.int .i64 n) = W2 at *
            refine Sd.done ?_
            go_wp2
            go_roundw
            case rel => exact ⟨2, by omega, by go_num, Lib.hid E.out.1, Lib.hid E.out.2⟩
            case measure => simp [intOf]
    · obtain ⟨s0', s1', hr, hv⟩ := M.out
      have e2 : st a 2 = tk a := rfl
      rw [e2] at hr hv
      have FF : Hid (Fin_ w r a t s0' s1' n la) := Lib.hid (fin_of hv)
      have R0 : Hid (RowP (wr.setCell ⟨r, 4, none⟩ (.int .i64 (n + 1))) r (tk a).r0 (tk a).r1 s0' s1' (n + 1) la) := Lib.hid (hr.set4 (n + 1))
      have O0 : Hid (Only (fun b => b = r) w (wr.setCell ⟨r, 4, none⟩ (.int .i64 (n + 1)))) := Lib.hid (only_two OO.out (only_set r 4 wr _))
      have c4 : wr.cell? ⟨r, 4, none⟩ = some (.int .i64 n) := row_cell hr 4
      have g4 := row_frozen hr 4
      have wn : IntKind.i64.wrap (n + 1) = n + 1 := IntWalk.i64_in _ (by omega)
      obtain ⟨F1, F2, F3, F4, F5⟩ := FF.out
      have G1 := Lib.hid F1
      have G2 := Lib.hid F2
      have G3 := Lib.hid F3
      have G4 := Lib.hid F4
      have G5 := Lib.hid F5
      clear hr hv M OO FF F1 F2 F3 F4 F5 e2
      generalize (tk a).r0 = x0 at *
      generalize (tk a).r1 = x1 at *
      go_upto_region 8 with fail
      clear c4 g4
      generalize wr.setCell ⟨r, 4, none⟩ (.int .i64 (n + 1)) = W0 at *
      generalize n + 1 = m at *
      go_wp2
      go_loopw [5] (fun i wr => ∃ k : Nat, k ≤ 2 ∧ i = .int .i64 k ∧ Hid (RowP wr r x0 x1 s0' s1' m la) ∧ Hid (Only (fun b => b = r) w wr) ∧ Hid (1 ≤ k → x0 ≠ 1) ∧ Hid (2 ≤ k → x1 ≠ 1)) (fun i _ => 2 - (intOf i).toNat)
      case atStart => exact ⟨0, by omega, rfl, R0, O0, Lib.hid (fun h => absurd h (by decide)), Lib.hid (fun h => absurd h (by decide))⟩
      case round =>
        clear R0 O0
        obtain ⟨k, hk, rfl, RR, O1, X0, X1⟩ := hrel
        rcases (by omega : k = 0 ∨ k = 1 ∨ k = 2) with rfl | rfl | rfl
        · clear G1 G4 G5 X0 X1
          have c0 : wr.cell? ⟨r, 0, none⟩ = some (.int .i64 x0) := row_cell RR.out 0
          by_cases h0 : x0 = 1
          · have q0 : (x0 != 1) = false := by rw [h0]; rfl
            by_cases h1 : x1 = 3
            · skip
              have E := Lib.hid (G3.out h0 h1)
              have R5 : Hid (RowP (wr.setCell ⟨r, 5, none⟩ (.int .i64 m)) r x0 x1 s0' s1' m m) := Lib.hid (RR.out.set5 m)
              have O5 : Hid (Only (fun b => b = r) w (wr.setCell ⟨r, 5, none⟩ (.int .i64 m))) := Lib.hid (only_two O1.out (only_set r 5 wr _))
              have c4 : wr.cell? ⟨r, 4, none⟩ = some (.int .i64 m) := row_cell RR.out 4
              have c5 : wr.cell? ⟨r, 5, none⟩ = some (.int .i64 la) := row_cell RR.out 5
              have g5 := row_frozen RR.out 5
              clear G2 G3 h0 RR O1
              go_upto_region 13 with fail
              clear c0 c4 c5 g5
              generalize wr.setCell ⟨r, 5, none⟩ (.int .i64 m) = W5 at *
              have c1 : W5.cell? ⟨r, 1, none⟩ = some (.int .i64 x1) := row_cell R5.out 1
              have q1 : (x1 == 3) = true := beq_iff_eq.2 h1
              go_upto_region 14 with fail
              clear c1 q1
              generalize hi0 : ((0 : Nat) : Int) = i0 at *
              have HI := Lib.hid hi0
              have w10 : IntKind.i64.wrap (1 - i0) = 1 := by rw [← HI.out]; rfl
              clear hi0
              have C0 : W5.drew.cell? ⟨r, 4, none⟩ = some (.int .i64 m) := row_cell (show RowP W5.drew r x0 x1 s0' s1' m m from R5.out) 4
              have Rd : Hid (RowP W5.drew r x0 x1 s0' s1' m m) := Lib.hid R5.out
              have Od := Lib.hid (O5.out.then (Below.refl _ _).drew)
              clear R5 O5
              have c4 := Sc.cell_in (C := fun W => W.cell? ⟨r, 4, none⟩ = some (.int .i64 m)) (a := ⟨r, 4, none⟩) (fun W h => h)
              have ne : Nonempty (Sc.In (fun W => W.cell? ⟨r, 4, none⟩ = some (.int .i64 m))) := ⟨⟨_, C0⟩⟩
              refine Sc.start (fun W => W.cell? ⟨r, 4, none⟩ = some (.int .i64 m)) [(false, 0), (false, 1), (false, 2), (false, 3), (false, 4), (false, 5), (false, 6), (false, 7), (false, 8), (false, 9), (false, 10), (false, 11), (false, 12), (false, 14), (false, 15), (true, 13), (false, 16), (true, 17)] (by kernel_rfl) (by kernel_rfl) (by kernel_rfl) C0 ?_
              dsimp only [Sd.picks, List.getElem?_cons_succ, List.getElem?_cons_zero]
              repeat (refine Sd.lit ?_; quiet_step (fail); refine wpQuiet_nil ?_)
              clear c4
              generalize W5.drew = W6 at *
              refine Sd.call (by rfl) (fun K hK => ?_)
              have d0 : W6.cell? ⟨r, 1, none⟩ = some (.int .i64 x1) := row_cell Rd.out 1
              have g0 := row_frozen Rd.out 1
              have R1 : Hid (RowP (W6.setCell ⟨r, 1, none⟩ (.int .i64 2)) r x0 2 s0' s1' m m) := Lib.hid (Rd.out.set1 2)
              have Oe := Lib.hid (only_two Od.out (only_set r 1 W6 (.int .i64 2)))
              clear Rd C0 Od
              go_simp
              refine hK _ _ (Sc.Cl.of (row_cell R1.out 4)) ?_
              clear hK K d0 g0
              generalize W6.setCell ⟨r, 1, none⟩ (.int .i64 2) = W7 at *
              repeat (refine Sd.lit ?_; quiet_step (fail); refine wpQuiet_nil ?_)
              refine Sd.call (by rfl) (fun K hK => ?_)
              have d0 : W7.cell? ⟨r, 3, none⟩ = some (.int .i64 s1') := row_cell R1.out 3
              have g0 := row_frozen R1.out 3
              have R2 : Hid (RowP (W7.setCell ⟨r, 3, none⟩ (.int .i64 m)) r x0 2 s0' m m m) := Lib.hid (R1.out.set3 m)
              have E2 := Lib.hid (E.out _ R2.out (only_two Oe.out (only_set r 3 W7 (.int .i64 m))))
              clear R1 Oe E
              go_simp
              refine hK _ _ (Sc.Cl.of (row_cell R2.out 4)) ?_
              clear hK K d0 g0 R2 ne
              generalize W7.setCell ⟨r, 3, none⟩ (.int .i64 m) = W8 at *
              refine Sd.done ?_
              go_wp2
              go_ret
              cases HI.out
              exact E2.out
            · skip
              have E := Lib.hid (G2.out h0 h1)
              have R5 : Hid (RowP (wr.setCell ⟨r, 5, none⟩ (.int .i64 m)) r x0 x1 s0' s1' m m) := Lib.hid (RR.out.set5 m)
              have O5 : Hid (Only (fun b => b = r) w (wr.setCell ⟨r, 5, none⟩ (.int .i64 m))) := Lib.hid (only_two O1.out (only_set r 5 wr _))
              have c4 : wr.cell? ⟨r, 4, none⟩ = some (.int .i64 m) := row_cell RR.out 4
              have c5 : wr.cell? ⟨r, 5, none⟩ = some (.int .i64 la) := row_cell RR.out 5
              have g5 := row_frozen RR.out 5
              clear G2 G3 h0 RR O1
              go_upto_region 13 with fail
              clear c0 c4 c5 g5
              generalize wr.setCell ⟨r, 5, none⟩ (.int .i64 m) = W5 at *
              have c1 : W5.cell? ⟨r, 1, none⟩ = some (.int .i64 x1) := row_cell R5.out 1
              have q1 : (x1 == 3) = false := beq_eq_false_iff_ne.2 h1
              have E2 := Lib.hid (E.out _ R5.out O5.out)
              clear R5 O5 E h1
              go_wp2
              go_ret
              exact E2.out
          · have q0 : (x0 != 1) = true := bne_iff_ne.2 h0
            have Y0 : Hid (1 ≤ 1 → x0 ≠ 1) := Lib.hid fun _ => h0
            clear G2 G3 h0
            go_wp2
            go_roundw
            case rel => exact ⟨1, by omega, by go_num, RR, O1, Y0, Lib.hid fun h => absurd h (by decide)⟩
            case measure => simp [intOf]
        · clear G1 G2 G3 X1
          have c1 : wr.cell? ⟨r, 1, none⟩ = some (.int .i64 x1) := row_cell RR.out 1
          by_cases h0 : x1 = 1
          · have q0 : (x1 != 1) = false := by rw [h0]; rfl
            by_cases h1 : x0 = 3
            · skip
              have E := Lib.hid (G5.out (X0.out (Nat.le_refl _)) h0 h1)
              have R5 : Hid (RowP (wr.setCell ⟨r, 5, none⟩ (.int .i64 m)) r x0 x1 s0' s1' m m) := Lib.hid (RR.out.set5 m)
              have O5 : Hid (Only (fun b => b = r) w (wr.setCell ⟨r, 5, none⟩ (.int .i64 m))) := Lib.hid (only_two O1.out (only_set r 5 wr _))
              have c4 : wr.cell? ⟨r, 4, none⟩ = some (.int .i64 m) := row_cell RR.out 4
              have c5 : wr.cell? ⟨r, 5, none⟩ = some (.int .i64 la) := row_cell RR.out 5
              have g5 := row_frozen RR.out 5
              clear G4 G5 X0 h0 RR O1
              go_upto_region 13 with fail
              clear c1 c4 c5 g5
              generalize wr.setCell ⟨r, 5, none⟩ (.int .i64 m) = W5 at *
              have c1 : W5.cell? ⟨r, 0, none⟩ = some (.int .i64 x0) := row_cell R5.out 0
              have q1 : (x0 == 3) = true := beq_iff_eq.2 h1
              go_upto_region 14 with fail
              clear c1 q1
              generalize hi0 : ((1 : Nat) : Int) = i0 at *
              have HI := Lib.hid hi0
              have w10 : IntKind.i64.wrap (1 - i0) = 0 := by rw [← HI.out]; rfl
              clear hi0
              have C0 : W5.drew.cell? ⟨r, 4, none⟩ = some (.int .i64 m) := row_cell (show RowP W5.drew r x0 x1 s0' s1' m m from R5.out) 4
              have Rd : Hid (RowP W5.drew r x0 x1 s0' s1' m m) := Lib.hid R5.out
              have Od := Lib.hid (O5.out.then (Below.refl _ _).drew)
              clear R5 O5
              have c4 := Sc.cell_in (C := fun W => W.cell? ⟨r, 4, none⟩ = some (.int .i64 m)) (a := ⟨r, 4, none⟩) (fun W h => h)
              have ne : Nonempty (Sc.In (fun W => W.cell? ⟨r, 4, none⟩ = some (.int .i64 m))) := ⟨⟨_, C0⟩⟩
              refine Sc.start (fun W => W.cell? ⟨r, 4, none⟩ = some (.int .i64 m)) [(false, 0), (false, 1), (false, 2), (false, 3), (false, 4), (false, 5), (false, 6), (false, 7), (false, 8), (false, 9), (false, 10), (false, 11), (false, 12), (false, 14), (false, 15), (true, 13), (false, 16), (true, 17)] (by kernel_rfl) (by kernel_rfl) (by kernel_rfl) C0 ?_
              dsimp only [Sd.picks, List.getElem?_cons_succ, List.getElem?_cons_zero]
              repeat (refine Sd.lit ?_; quiet_step (fail); refine wpQuiet_nil ?_)
              clear c4
              generalize W5.drew = W6 at *
              refine Sd.call (by rfl) (fun K hK => ?_)
              have d0 : W6.cell? ⟨r, 0, none⟩ = some (.int .i64 x0) := row_cell Rd.out 0
              have g0 := row_frozen Rd.out 0
              have R1 : Hid (RowP (W6.setCell ⟨r, 0, none⟩ (.int .i64 2)) r 2 x1 s0' s1' m m) := Lib.hid (Rd.out.set0 2)
              have Oe := Lib.hid (only_two Od.out (only_set r 0 W6 (.int .i64 2)))
              clear Rd C0 Od
              go_simp
              refine hK _ _ (Sc.Cl.of (row_cell R1.out 4)) ?_
              clear hK K d0 g0
              generalize W6.setCell ⟨r, 0, none⟩ (.int .i64 2) = W7 at *
              repeat (refine Sd.lit ?_; quiet_step (fail); refine wpQuiet_nil ?_)
              refine Sd.call (by rfl) (fun K hK => ?_)
              have d0 : W7.cell? ⟨r, 2, none⟩ = some (.int .i64 s0') := row_cell R1.out 2
              have g0 := row_frozen R1.out 2
              have R2 : Hid (RowP (W7.setCell ⟨r, 2, none⟩ (.int .i64 m)) r 2 x1 m s1' m m) := Lib.hid (R1.out.set2 m)
              have E2 := Lib.hid (E.out _ R2.out (only_two Oe.out (only_set r 2 W7 (.int .i64 m))))
              clear R1 Oe E
              go_simp
              refine hK _ _ (Sc.Cl.of (row_cell R2.out 4)) ?_
              clear hK K d0 g0 R2 ne
              generalize W7.setCell ⟨r, 2, none⟩ (.int .i64 m) = W8 at *
              refine Sd.done ?_
              go_wp2
              go_ret
              cases HI.out
              exact E2.out
            · skip
              have E := Lib.hid (G4.out (X0.out (Nat.le_refl _)) h0 h1)
              have R5 : Hid (RowP (wr.setCell ⟨r, 5, none⟩ (.int .i64 m)) r x0 x1 s0' s1' m m) := Lib.hid (RR.out.set5 m)
              have O5 : Hid (Only (fun b => b = r) w (wr.setCell ⟨r, 5, none⟩ (.int .i64 m))) := Lib.hid (only_two O1.out (only_set r 5 wr _))
              have c4 : wr.cell? ⟨r, 4, none⟩ = some (.int .i64 m) := row_cell RR.out 4
              have c5 : wr.cell? ⟨r, 5, none⟩ = some (.int .i64 la) := row_cell RR.out 5
              have g5 := row_frozen RR.out 5
              clear G4 G5 X0 h0 RR O1
              go_upto_region 13 with fail
              clear c1 c4 c5 g5
              generalize wr.setCell ⟨r, 5, none⟩ (.int .i64 m) = W5 at *
              have c1 : W5.cell? ⟨r, 0, none⟩ = some (.int .i64 x0) := row_cell R5.out 0
              have q1 : (x0 == 3) = false := beq_eq_false_iff_ne.2 h1
              have E2 := Lib.hid (E.out _ R5.out O5.out)
              clear R5 O5 E h1
              go_wp2
              go_ret
              exact E2.out
          · have q0 : (x1 != 1) = true := bne_iff_ne.2 h0
            have Y0 : Hid (1 ≤ 2 → x0 ≠ 1) := Lib.hid fun _ => X0.out (Nat.le_refl _)
            have Y1 : Hid (2 ≤ 2 → x1 ≠ 1) := Lib.hid fun _ => h0
            clear G4 G5 h0 X0
            go_wp2
            go_roundw
            case rel => exact ⟨2, by omega, by go_num, RR, O1, Y0, Y1⟩
            case measure => simp [intOf]
        · have E := Lib.hid (G1.out (X0.out (by omega)) (X1.out (by omega)) _ RR.out O1.out)
          clear G1 G2 G3 G4 G5 X0 X1 RR O1
          go_wp2
          go_ret
          exact E.out

end Go.Proofs.Ytabhpafmppmigaa.Wt
