/- What the sampler hears of a line: each bit by three looks, and the byte of what is heard from the line's first fall on. -/
import Derived.Test.YtcphjeibanedhaaSaMath
import Derived.Test.YtcphjeibanedhaaWiFall
import Derived.Test.YtcphjeibanedhaaTkGlob
import Derived.Test.YtcphjeibanedhaaSaRef
namespace Go.Proofs.Ytcphjeibanedhaa.Sa
open Go.RowKit Go.Proofs.Ytcphjeibanedhaa.Sp
open Go.Proofs.Ytcphjeibanedhaa.Tk (GoodP Glo global_any local_any rglobal_any rlocal_any)
open Go.Proofs.Ytcphjeibanedhaa.Wi (PlainOf lowB high_any rlow_any fall_any rfall_any FallV FallPost Near)
open Go.Proofs.Ytcphjeibanedhaa.Ua (arr upd Row Two two_new no tb tp te take_any rtake_any copy_frame results_frame ret_arr ret_three below_setRow store_new)

/-- How many of the first looks at a bit are high. -/
def hi (low : Int → Bool) (g : Int → Int) (b : Int) : Nat → Nat
  | 0 => 0
  | k + 1 => hi low g b k + (if low (g (b + 7 + k)) then 0 else 1)
theorem hi_le (low : Int → Bool) (g : Int → Int) (b : Int) : ∀ k, hi low g b k ≤ k
  | 0 => Nat.le_refl _
  | k + 1 => by have := hi_le low g b k; unfold hi; split <;> omega
theorem hi_low {low : Int → Bool} {g : Int → Int} {b : Int} {k : Nat} (h : low (g (b + 7 + k)) = true) : hi low g b (k + 1) = hi low g b k := by rw [hi, if_pos h, Nat.add_zero]
theorem hi_high {low : Int → Bool} {g : Int → Int} {b : Int} {k : Nat} (h : low (g (b + 7 + k)) = false) : hi low g b (k + 1) = hi low g b k + 1 := by rw [hi, if_neg (by simp [h])]
theorem hi_maj (low : Int → Bool) (g : Int → Int) (b : Int) : decide ((1 : Int) < (hi low g b 3 : Nat)) = maj (!low (g (b + 7))) (!low (g (b + 8))) (!low (g (b + 9))) := by
  have e : hi low g b 3 = 0 + (if low (g (b + 7)) then 0 else 1) + (if low (g (b + 8)) then 0 else 1) + (if low (g (b + 9)) then 0 else 1) := by
    show 0 + (if low (g (b + 7 + (0 : Nat))) then 0 else 1) + (if low (g (b + 7 + (1 : Nat))) then 0 else 1) + (if low (g (b + 7 + (2 : Nat))) then 0 else 1) = _
    rw [show b + 7 + ((0 : Nat) : Int) = b + 7 by omega, show b + 7 + ((1 : Nat) : Int) = b + 8 by omega, show b + 7 + ((2 : Nat) : Int) = b + 9 by omega]
  rw [e]
  cases low (g (b + 7)) <;> cases low (g (b + 8)) <;> cases low (g (b + 9)) <;> rfl

set_option maxHeartbeats 400000 in
theorem mostly_any (w : World) (v u : Value) (l : List S2) (P : Sp w v l) (n : Nat) (A R : Nat → Int) (S : Tk.Steps w u n A R) (g : GoodP n A R) (b : Int) (b0 : 0 ≤ b) (b1 : b ≤ 5000000000) :
    Calls Try.prog 21 #[v, u, .int .i64 b] w fun e w' => e = .returned (.bool (maj (!lowB l (Glo A R n (b + 7))) (!lowB l (Glo A R n (b + 8))) (!lowB l (Glo A R n (b + 9))))) ∧ Below w.heap.size w w' := by
  have P0 := Lib.hid P
  have S0 := Lib.hid S
  have G := Lib.hid g
  have HM := Lib.hid (hi_maj (lowB l) (Glo A R n) b)
  clear P S g
  go_enter Try.func21, Try.ntmps21
  go_wp2
  go_loopw [7, 9] (fun h i wr => ∃ k : Nat, k ≤ 3 ∧ i = .int .i64 k ∧ h = .int .i64 (hi (lowB l) (Glo A R n) b k : Nat) ∧ Below w.heap.size w wr) (fun _ i _ => 3 - (intOf i).toNat)
  case atStart => exact ⟨0, by omega, rfl, rfl, Below.refl _ _⟩
  case round =>
    obtain ⟨k, hk, rfl, rfl, hb⟩ := hrel
    have q := hi_le (lowB l) (Glo A R n) b k
    have HB := Lib.hid hb
    by_cases hlt : k < 3
    · have s1 := Lib.hid (S0.out.below hb)
      have p1 := Lib.hid (P0.out.below hb)
      clear hb
      go_wp2_with fail
      refine (global_any _ _ _ _ _ (b + 7 + k) s1.out G.out).mono ?_
      rintro e w1 ⟨rfl, c1⟩
      have p2 := Lib.hid (p1.out.below c1)
      have B1 := Lib.hid (HB.out.trans (c1.mono HB.out.size))
      clear c1
      cases hL : lowB l (Glo A R n (b + 7 + k)) with
      | true =>
        have E := Lib.hid (hi_low hL)
        have HA := Lib.hid (high_any _ _ _ p2.out (Glo A R n (b + 7 + k)))
        rw [hL] at HA
        clear hL
        go_wp2_with fail
        refine HA.out.mono ?_
        rintro e w2 ⟨rfl, c2⟩
        have B2 := Lib.hid (B1.out.trans (c2.mono B1.out.size))
        clear c2
        go_wp2
        go_roundw
        case rel => exact ⟨k + 1, by omega, by go_num, by rw [E.out], B2.out⟩
        case measure => simp [intOf]; omega
      | false =>
        have E := Lib.hid (hi_high hL)
        have HA := Lib.hid (high_any _ _ _ p2.out (Glo A R n (b + 7 + k)))
        rw [hL] at HA
        clear hL
        go_wp2_with fail
        refine HA.out.mono ?_
        rintro e w2 ⟨rfl, c2⟩
        have B2 := Lib.hid (B1.out.trans (c2.mono B1.out.size))
        clear c2
        go_wp2
        go_roundw
        case rel => exact ⟨k + 1, by omega, by go_num, by rw [E.out]; go_num, B2.out⟩
        case measure => simp [intOf]; omega
    · obtain rfl : k = 3 := by omega
      clear hb
      generalize hi (lowB l) (Glo A R n) b 3 = h at *
      go_wp2
      go_ret
      exact ⟨Ua.ret_bool HM.out, HB.out⟩

set_option maxHeartbeats 400000 in
theorem bits_any (w : World) (v u : Value) (l : List S2) (P : Sp w v l) (n : Nat) (A R : Nat → Int) (S : Tk.Steps w u n A R) (g : GoodP n A R) (t : Int) :
    Calls Try.prog 10 #[v, u, .int .i64 t] w fun e w' => e = .returned (.agg (arr (heard (lowB l) (Glo A R n) (Tk.Loc A R n t)))) ∧ Below w.heap.size w w' := by
  have T0 := Lib.hid (two_new w (hf (lowB l) (Glo A R n) (Tk.Loc A R n t) 0) (fun i _ => hf_0 _ _ _ i))
  have P0 := Lib.hid P
  have S0 := Lib.hid S
  have G := Lib.hid g
  have N := Loc_all A R n g t
  have z2 : ((w.alloc (.cells (arr no) 34)).alloc (.cells (arr no) 34)).heap.size = w.heap.size + 1 + 1 := by simp
  have LA := Lib.hid (local_any _ u n A R (S.below T0.out.2.2) g t)
  clear P S g
  go_enter Try.func10, Try.ntmps10
  go_wp2_with fail
  refine LA.out.mono ?_
  rintro e w1 ⟨rfl, b1⟩
  have T1 := Lib.hid (T0.out.below b1)
  clear b1 LA T0
  generalize hL : Tk.Loc A R n t = L at *
  have HL := Lib.hid hL
  clear hL
  obtain ⟨N0, N1⟩ := N
  go_wp2
  go_loopw [13] (fun i wr => ∃ k : Nat, k ≤ 11 ∧ i = .int .i64 k ∧ Hid (Two w wr (hf (lowB l) (Glo A R n) L k))) (fun i _ => 11 - (intOf i).toNat)
  case atStart => exact ⟨0, by omega, rfl, T1⟩
  case round =>
    obtain ⟨k, hk, rfl, T⟩ := hrel
    by_cases hlt : k < 11
    · have HS := Lib.hid (fun x (e : x = heard (lowB l) (Glo A R n) L k) => hf_step (lowB l) (Glo A R n) L k e)
      have M := Lib.hid (mostly_any wr v u l (P0.out.below T.out.2.2) n A R (S0.out.below T.out.2.2) G.out (L + 16 * k) (by omega) (by omega))
      go_wp2_with fail
      refine M.out.mono ?_
      rintro e w2 ⟨rfl, b2⟩
      have T2 := Lib.hid (T.out.below b2)
      have c := T2.out.2.1.cell k (by omega)
      have f := T2.out.2.1.frozen k
      clear b2 M
      go_wp2
      go_roundw
      case rel => exact ⟨k + 1, by omega, by go_num, Lib.hid ((T2.out.set_ k (by omega) _).to (fun i _ => HS.out _ rfl i))⟩
      case measure => simp [intOf]; omega
    · obtain rfl : k = 11 := by omega
      go_wp2_with ((with_reducible refine copy_frame (o := ⟨some 26, _, _, _, _, _⟩) rfl rfl _ _ _ rfl rfl rfl _ _ _ _ ?_ ?_ ?_ T.out.frame T.out.res ?_); (exact rfl); (exact rfl); (exact rfl))
      refine bodyPost_ret (results_frame rfl _ _ _ _ rfl (T.out.1.row _)) rfl ⟨ret_arr fun i hi => by rw [HL.out]; exact hf_all _ _ _ i hi, ?_⟩
      exact below_setRow T.out.2.2 _ _ (Nat.le_refl _)

/-- What is heard of the plain list x: the byte, its parity, and the error. -/
noncomputable def HearV (x l : List S2) (A R : Nat → Int) (n : Nat) (f t : Int) : Int × Bool × Int :=
  if (FallV x f t).2 then (tb (heard (lowB l) (Glo A R n) (Tk.Loc A R n (FallV x f t).1)), tp (heard (lowB l) (Glo A R n) (Tk.Loc A R n (FallV x f t).1)), te (heard (lowB l) (Glo A R n) (Tk.Loc A R n (FallV x f t).1))) else (0, false, 3)
theorem hear_no {x l : List S2} {A R : Nat → Int} {n : Nat} {f t p : Int} (h : FallV x f t = (p, false)) : (0, false, 3) = HearV x l A R n f t := by
  unfold HearV; rw [h]; rfl
theorem hear_yes {x l : List S2} {A R : Nat → Int} {n : Nat} {f t p : Int} (h : FallV x f t = (p, true)) : (tb (heard (lowB l) (Glo A R n) (Tk.Loc A R n p)), tp (heard (lowB l) (Glo A R n) (Tk.Loc A R n p)), te (heard (lowB l) (Glo A R n) (Tk.Loc A R n p))) = HearV x l A R n f t := by
  unfold HearV; rw [h]; rfl
def HearPost (w : World) (l : List S2) (A R : Nat → Int) (n : Nat) (f t : Int) (e : Ending) (w' : World) : Prop :=
  ∃ x, PlainOf l x ∧ e = .returned (.tuple #[.int .u8 (HearV x l A R n f t).1, .bool (HearV x l A R n f t).2.1, .int .i64 (HearV x l A R n f t).2.2]) ∧ Below w.heap.size w w'
theorem ret_hear {a c : Int} {b : Bool} {q : Int × Bool × Int} (h : (a, b, c) = q) : Ending.returned (.tuple #[.int .u8 a, .bool b, .int .i64 c]) = .returned (.tuple #[.int .u8 q.1, .bool q.2.1, .int .i64 q.2.2]) := by rw [← h]

set_option maxHeartbeats 400000 in
theorem hear_any (w : World) (v u : Value) (l : List S2) (P : Sp w v l) (hl : l.length < 1099511627776) (n : Nat) (A R : Nat → Int) (S : Tk.Steps w u n A R) (g : GoodP n A R) (f t : Int) :
    Calls Try.prog 8 #[v, u, .int .i64 f, .int .i64 t] w (HearPost w l A R n f t) := by
  have P0 := Lib.hid P
  have S0 := Lib.hid S
  have G := Lib.hid g
  clear P S g
  go_enter Try.func8, Try.ntmps8
  go_wp2_with fail
  refine (fall_any _ _ _ P0.out hl f t).mono ?_
  rintro e w1 ⟨x, hx, rfl, b1⟩
  have PX := Lib.hid hx
  have B1 := Lib.hid b1
  have P1 := Lib.hid (P0.out.below b1)
  have S1 := Lib.hid (S0.out.below b1)
  clear b1 hx P0 S0
  generalize hv : FallV x f t = q
  obtain ⟨p, y⟩ := q
  cases y with
  | false =>
    have E := Lib.hid (hear_no (l := l) (A := A) (R := R) (n := n) hv)
    clear hv
    go_wp2
    go_ret3
    exact ⟨x, PX.out, ret_hear E.out, B1.out⟩
  | true =>
    have E := Lib.hid (hear_yes (l := l) (A := A) (R := R) (n := n) hv)
    clear hv
    go_wp2_with fail
    refine (bits_any _ _ _ _ P1.out _ _ _ S1.out G.out p).mono ?_
    rintro e w2 ⟨rfl, b2⟩
    have B2 := Lib.hid (B1.out.trans (b2.mono B1.out.size))
    clear b2
    generalize heard (lowB l) (Glo A R n) (Tk.Loc A R n p) = F at *
    go_wp2_with fail
    refine (take_any _ F).mono ?_
    rintro e w3 ⟨rfl, b3⟩
    have B3 := Lib.hid (B2.out.trans (b3.mono B2.out.size))
    clear b3
    go_wp2
    go_ret3
    exact ⟨x, PX.out, ret_hear E.out, B3.out⟩

set_option maxHeartbeats 400000 in
theorem rhear_any (w : World) (v u : Value) (l : List S2) (P : Sp w v l) (N : Near l) (n : Nat) (A R : Nat → Int) (S : Tk.Steps w u n A R) (g : GoodP n A R) (f t : Int) :
    Calls Try.prog 9 #[v, u, .int .i64 f, .int .i64 t] w (HearPost w l A R n f t) := by
  have P0 := Lib.hid P
  have S0 := Lib.hid S
  have G := Lib.hid g
  clear P S g
  go_enter Try.func9, Try.ntmps9
  go_wp2_with fail
  refine (rfall_any _ _ _ P0.out N f t).mono ?_
  rintro e w1 ⟨x, hx, rfl, b1⟩
  have PX := Lib.hid hx
  have B1 := Lib.hid b1
  have P1 := Lib.hid (P0.out.below b1)
  have S1 := Lib.hid (S0.out.below b1)
  clear b1 hx P0 S0
  generalize hv : FallV x f t = q
  obtain ⟨p, y⟩ := q
  cases y with
  | false =>
    have E := Lib.hid (hear_no (l := l) (A := A) (R := R) (n := n) hv)
    clear hv
    go_wp2
    go_ret3
    exact ⟨x, PX.out, ret_hear E.out, B1.out⟩
  | true =>
    have E := Lib.hid (hear_yes (l := l) (A := A) (R := R) (n := n) hv)
    clear hv
    go_wp2_with fail
    refine (rbits_any _ _ _ _ P1.out _ _ _ S1.out G.out p).mono ?_
    rintro e w2 ⟨rfl, b2⟩
    have B2 := Lib.hid (B1.out.trans (b2.mono B1.out.size))
    clear b2
    generalize heard (lowB l) (Glo A R n) (Tk.Loc A R n p) = F at *
    go_wp2_with fail
    refine (rtake_any _ F).mono ?_
    rintro e w3 ⟨rfl, b3⟩
    have B3 := Lib.hid (B2.out.trans (b3.mono B2.out.size))
    clear b3
    go_wp2
    go_ret3
    exact ⟨x, PX.out, ret_hear E.out, B3.out⟩

end Go.Proofs.Ytcphjeibanedhaa.Sa
