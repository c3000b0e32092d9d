/- WatchEnds: whatever happened, where one is up a round is opened. -/
import Derived.Test.YtabhpafmppmigaaWtDoes
namespace Go.Proofs.Ytabhpafmppmigaa.Wt
open Go.RowKit
open Go.Proofs.Ytabhpafmppmigaa.Fl (ret_bool at_bool row_cell row_frozen)
open Go.Proofs.Ytabhpafmppmigaa.Fs (Only)
open Go.Proofs.Ytabhpafmppmigaa.Rw (Rd Ow At)

/-- How long it may still be silent. -/
structure Lf (sh : Bool) (a : A) (c : Nat) : Prop where
  ok : Ok a
  all : (c : Int) + left a ≤ 9
  sha : sh = true → (c : Int) + left a ≤ 4
theorem Lf.next {sh : Bool} {a : A} {c : Nat} (h : Lf sh a c) (e : opn a = -1) : Lf sh (rnd a) (c + 1) ∧ c + 1 ≤ 9 ∧ (sh = true → c + 1 ≤ 4) := by
  obtain ⟨r1, r2, _⟩ := rnd_left h.ok
  obtain ⟨r2, _, _⟩ := r2 e
  have h1 := h.all
  have h2 := h.sha
  have h3 : left a ≠ 0 := fun g => by have := r1.2 g; omega
  have p0 := lf_pos 0 a.r0 a.q0
  have p1 := lf_pos 1 a.r1 a.q1
  have hp : 0 ≤ left a := by unfold left; omega
  have e2 : left (rnd a) = left a - 1 := by omega
  exact ⟨⟨h.ok.rnd, by omega, fun g => by have := h2 g; omega⟩, by omega, fun g => by have := h2 g; omega⟩
theorem Lf.fin {sh : Bool} {a : A} {c : Nat} (h : Lf sh a c) (e : ¬ opn a = -1) : 0 ≤ opn a ∧ 0 ≤ opn (rnd a) := by
  have : 0 ≤ opn a := by rcases opn_cases a with g | g | g <;> omega
  exact ⟨this, (rnd_left h.ok).2.2 this⟩
theorem lf_start {a : A} (ok : Ok a) (h : ¬ (a.r0 = 4 ∧ a.r1 = 4)) {sh : Bool} (hs : sh = true → a.r0 = 2 ∨ a.r1 = 2) : Lf sh a 0 :=
  ⟨ok, by have := (left_le ok h).1; omega, fun g => by have := (left_le ok h).2 (hs g); omega⟩

set_option maxHeartbeats 8000000 in
set_option maxRecDepth 100000 in
theorem ends_law (w : World) (v : Value) (l : List D2) (R : Rd KW w v l) (F : Fd l) : Calls Try.prog 5 #[v] w fun e w' => e = .returned (.bool true) ∧ Below w.heap.size w w' := by
  have FF : Hid (∀ k, k < l.length → 0 ≤ (da l k).1 ∧ (da l k).1 ≤ 255) := Lib.hid F
  have C0 := Lib.hid (new_any w)
  obtain ⟨a, cap, rfl, _, hm, hA⟩ := R
  have HA := Lib.hid hA
  unfold maxLen at hm
  clear hA F
  generalize hn : l.length = n at *
  have HN := Lib.hid hn
  clear hn
  go_enter Try.func5, Try.ntmps5
  go_wp2_with fail
  refine C0.out.mono ?_
  rintro e w1 ⟨s, rfl, p1, hs, b1⟩
  have P1 := Lib.hid p1
  have B1 := Lib.hid b1
  have HS := Lib.hid hs
  clear C0 p1 b1 hs
  go_wp2
  go_loopw [4] (fun i wr => ∃ (k : Nat) (a : A) (t : Nat), k ≤ n ∧ k ≤ 120 ∧ i = .int .i64 k ∧ t ≤ k ∧ Hid (Pr wr s a t) ∧ Hid (Ok a) ∧ Hid (Below w.heap.size w wr)) (fun i _ => n - (intOf i).toNat)
  case atStart => exact ⟨0, new, 0, Nat.zero_le _, Nat.zero_le _, rfl, Nat.zero_le _, P1, ok_new, B1⟩
  case round =>
    clear P1 B1
    obtain ⟨k, a, t, hk, hk2, rfl, ht, PP, OK, BB⟩ := hrel
    by_cases hlt : k < n ∧ k < 120
    · obtain ⟨hkn, hk120⟩ := hlt
      obtain ⟨b, off, rfl, A⟩ := HA.out (by omega)
      obtain ⟨c0, c1⟩ := atW (A.below BB.out) (i := k) (by rw [HN.out]; exact hkn)
      have HAA := Lib.hid A
      obtain ⟨x0, x255⟩ := FF.out k hkn
      clear A
      generalize da l k = x at *
      have hmod : Int.tmod x.1 5 = x.1 % 5 := Int.tmod_eq_emod_of_nonneg x0
      have wmod : IntKind.u8.wrap (x.1 % 5) = x.1 % 5 := IntWalk.u8_in _ (by omega)
      have hm0 : 0 ≤ x.1 % 5 ∧ x.1 % 5 ≤ 4 := by omega
      go_upto_region 7 with fail
      generalize x.1 % 5 = md at *
      clear hmod wmod
      by_cases m0 : md = 0
      · subst m0
        have CA := Lib.hid (crash_any PP.out x.2)
        clear hm0
        go_wp2_with fail
        refine CA.out.mono ?_
        rintro e w4 ⟨rfl, p4, o4⟩
        have B4 := Lib.hid (low BB.out o4 HS.out)
        have P4 := Lib.hid p4
        have O4 := Lib.hid (OK.out.cr x.2)
        clear p4 o4 PP OK BB CA c0 c1
        generalize crA a x.2 = a' at *
        generalize crE a x.2 = er at *
        go_wp2
        go_roundw
        case rel => exact ⟨k + 1, a', t, by omega, by omega, by go_num, by omega, P4, O4, B4⟩
        case measure => simp [intOf]; omega
      · by_cases m1 : md = 1
        · subst m1
          have CA := Lib.hid (restart_any PP.out x.2)
          clear hm0 m0
          go_wp2_with fail
          refine CA.out.mono ?_
          rintro e w4 ⟨rfl, p4, o4⟩
          have B4 := Lib.hid (low BB.out o4 HS.out)
          have P4 := Lib.hid p4
          have O4 := Lib.hid (OK.out.rs x.2)
          clear p4 o4 PP OK BB CA c0 c1
          generalize rsA a x.2 = a' at *
          generalize rsE a x.2 = er at *
          go_wp2
          go_roundw
          case rel => exact ⟨k + 1, a', t, by omega, by omega, by go_num, by omega, P4, O4, B4⟩
          case measure => simp [intOf]; omega
        · have q0 : (md == 0) = false := beq_eq_false_iff_ne.2 m0
          have q1 : (md == 1) = false := beq_eq_false_iff_ne.2 m1
          have CA := Lib.hid (round_any PP.out (by omega))
          clear m0 m1 hm0 c0 c1
          go_wp2_with fail
          refine CA.out.mono ?_
          rintro e w4 ⟨rfl, p4, o4⟩
          have B4 := Lib.hid (low BB.out o4 HS.out)
          have P4 := Lib.hid p4
          have O4 := Lib.hid OK.out.rnd
          clear p4 o4 PP OK BB CA
          generalize rnd a = a' at *
          generalize opn a = er at *
          go_wp2
          go_roundw
          case rel => exact ⟨k + 1, a', t + 1, by omega, by omega, by go_num, by omega, P4, O4, B4⟩
          case measure => simp [intOf]; omega
    · have ht120 : t ≤ 120 := by omega
      have hcase : ¬ k < n ∨ (k < n ∧ ¬ k < 120) := by omega
      clear hlt
      have KK0 : Hid (∀ W, Below wr.heap.size wr W → Calls Try.prog 14 #[.pointer (some ⟨s, 0, none⟩), .int .i64 0] W fun e w' => e = .returned (.int .i64 a.r0) ∧ Below W.heap.size W w') := Lib.hid (fun W h => role_any (PP.out.below h) 0)
      have KK1 : Hid (∀ W, Below wr.heap.size wr W → Calls Try.prog 14 #[.pointer (some ⟨s, 0, none⟩), .int .i64 1] W fun e w' => e = .returned (.int .i64 a.r1) ∧ Below W.heap.size W w') := Lib.hid (fun W h => role_any (PP.out.below h) 1)
      have LS : Hid (∀ sh : Bool, ¬ (a.r0 = 4 ∧ a.r1 = 4) → (sh = true → a.r0 = 2 ∨ a.r1 = 2) → Lf sh a 0) := Lib.hid (fun sh h h2 => lf_start OK.out h h2)
      have DOWN : Hid (a.r0 = 4 ∧ a.r1 = 4 → opn a = -1) := Lib.hid down_left
      have RW : Hid (∀ W, Below wr.heap.size wr W → Calls Try.prog 12 #[.pointer (some ⟨s, 0, none⟩)] W (CdeedPost W s (opn a) (rnd a) (t + 1))) := Lib.hid (fun W h => round_any (PP.out.below h) (by omega))
      clear OK
      have K0 := KK0
      have K1 := KK1
      clear KK0 KK1
      generalize hz0 : a.r0 = z0 at *
      generalize hz1 : a.r1 = z1 at *
      clear hz0 hz1
      rcases hcase with h | ⟨h, h'⟩
      all_goals
        by_cases g04 : z0 = 4
        · by_cases g14 : z1 = 4
          · have DN := Lib.hid (DOWN.out ⟨g04, g14⟩)
            have e04 : (z0 == 4) = true := beq_iff_eq.2 g04
            have e14 : (z1 == 4) = true := beq_iff_eq.2 g14
            clear g04 g14 LS DOWN
            go_wp2_with fail
            refine (K0.out wr (Below.refl _ _)).mono ?_
            rintro e w5 ⟨rfl, b5⟩
            have B5 := Lib.hid (b5)
            clear b5
            go_wp2_with fail
            refine (K1.out w5 B5.out).mono ?_
            rintro e w6 ⟨rfl, b6⟩
            have B6 := Lib.hid (B5.out.trans (b6.mono B5.out.size))
            clear b6
            have CAW := Lib.hid (awake_any w6)
            clear K0 K1
            go_wp2_with fail
            refine CAW.out.mono ?_
            rintro e w7 ⟨rfl, b7⟩
            have B7 := Lib.hid (B6.out.trans (b7.mono B6.out.size))
            have CRD := Lib.hid (RW.out w7 B7.out)
            rw [DN.out] at CRD
            clear b7 CAW RW
            go_wp2_with fail
            refine CRD.out.mono ?_
            rintro e w8 ⟨rfl, p8, o8⟩
            have B8 := Lib.hid (low (BB.out.trans (B7.out.mono BB.out.size)) o8 HS.out)
            clear p8 o8 CRD
            go_wp2
            go_ret
            exact ⟨rfl, B8.out⟩
          · by_cases g12 : z1 = 2
            · have e12 : (z1 == 2) = true := beq_iff_eq.2 g12
              have e04 : (z0 == 4) = true := beq_iff_eq.2 g04
              have e14 : (z1 == 4) = false := beq_eq_false_iff_ne.2 g14
              have n02 : ¬ z0 = 2 := by omega
              have e02 : (z0 == 2) = false := beq_eq_false_iff_ne.2 n02
              clear RW
              go_wp2_with fail
              refine (K0.out wr (Below.refl _ _)).mono ?_
              rintro e w5 ⟨rfl, b5⟩
              have B5 := Lib.hid (b5)
              clear b5
              go_wp2_with fail
              refine (K1.out w5 B5.out).mono ?_
              rintro e w6 ⟨rfl, b6⟩
              have B6 := Lib.hid (B5.out.trans (b6.mono B5.out.size))
              clear b6
              go_wp2_with fail
              refine (K0.out w6 B6.out).mono ?_
              rintro e w7 ⟨rfl, b7⟩
              have B7 := Lib.hid (B6.out.trans (b7.mono B6.out.size))
              clear b7
              go_wp2_with fail
              refine (K1.out w7 B7.out).mono ?_
              rintro e w8 ⟨rfl, b8⟩
              have B8 := Lib.hid (B7.out.trans (b8.mono B7.out.size))
              clear b8
              have P9 := Lib.hid (PP.out.below B8.out)
              have BB9 := Lib.hid (BB.out.trans (B8.out.mono BB.out.size))
              have L0 : Hid (Lf true a 0) := Lib.hid (LS.out true (fun g => g14 g.2) (fun _ => .inr g12))
              clear LS DOWN K0 K1 e04 e14 e02 e12 PP BB
              go_wp2
              go_loopw [6] (fun i wr => ∃ (c : Nat) (a : A) (t : Nat), c ≤ 9 ∧ t ≤ 200 + c ∧ i = .int .i64 c ∧ Hid (Pr wr s a t) ∧ Hid (Lf true a c) ∧ Hid (Below w.heap.size w wr)) (fun i _ => 20 - (intOf i).toNat)
              case atStart => exact ⟨0, a, t, by omega, by omega, rfl, P9, L0, BB9⟩
              case round =>
                clear P9 L0 BB9
                obtain ⟨c, a, t, hc, ht2, rfl, PP, LF, BB⟩ := hrel
                have CA := Lib.hid (round_any PP.out (by omega))
                by_cases e : opn a = -1
                · obtain ⟨l1, l2, l3⟩ := LF.out.next e
                  have L1 := Lib.hid l1
                  have l4 := l3 rfl
                  rw [e] at CA
                  clear e l1 LF l3
                  go_wp2_with fail
                  refine CA.out.mono ?_
                  rintro e w10 ⟨rfl, p10, o10⟩
                  have B10 := Lib.hid (low BB.out o10 HS.out)
                  have P10 := Lib.hid p10
                  clear p10 o10 PP BB CA
                  generalize rnd a = a' at *
                  go_wp2
                  go_roundw
                  case rel => exact ⟨c + 1, a', t + 1, by omega, by omega, by go_num, P10, L1, B10⟩
                  case measure => simp [intOf]; omega
                · obtain ⟨l1, l2⟩ := LF.out.fin e
                  have L2 := Lib.hid l2
                  clear e l2 LF
                  generalize opn a = o at *
                  have o1 : ¬ o < 0 := by omega
                  go_wp2_with fail
                  refine CA.out.mono ?_
                  rintro e w10 ⟨rfl, p10, o10⟩
                  have B10 := Lib.hid (low BB.out o10 HS.out)
                  have P10 := Lib.hid p10
                  have C10 := Lib.hid (awake_any w10)
                  clear p10 o10 PP BB CA
                  generalize rnd a = a' at *
                  go_wp2_with fail
                  refine C10.out.mono ?_
                  rintro e w11 ⟨rfl, b11⟩
                  have B11 := Lib.hid (B10.out.trans (b11.mono B10.out.size))
                  have C11 := Lib.hid (round_any (P10.out.below b11) (by omega))
                  have o2 : 0 ≤ opn a' := L2.out
                  clear b11 C10 P10 B10 L2
                  generalize opn a' = o' at *
                  go_wp2_with fail
                  refine C11.out.mono ?_
                  rintro e w12 ⟨rfl, p12, o12⟩
                  have B12 := Lib.hid (low B11.out o12 HS.out)
                  clear p12 o12 B11 C11
                  go_wp2_with fail
                  refine (round_nil w12).mono ?_
                  rintro e w13 ⟨rfl, b13⟩
                  have B13 := Lib.hid (B12.out.trans (b13.mono B12.out.size))
                  clear b13 B12
                  go_wp2_with fail
                  refine (crash_nil w13 0).mono ?_
                  rintro e w14 ⟨rfl, b14⟩
                  have B14 := Lib.hid (B13.out.trans (b14.mono B13.out.size))
                  clear b14 B13
                  go_wp2_with fail
                  refine (restart_nil w14 0).mono ?_
                  rintro e w15 ⟨rfl, b15⟩
                  have B15 := Lib.hid (B14.out.trans (b15.mono B14.out.size))
                  clear b15 B14
                  go_wp2_with fail
                  refine (role_nil w15 0).mono ?_
                  rintro e w16 ⟨rfl, b16⟩
                  have B16 := Lib.hid (B15.out.trans (b16.mono B15.out.size))
                  clear b16 B15
                  go_wp2
                  go_ret
                  exact ⟨rfl, B16.out⟩
            · have e12 : (z1 == 2) = false := beq_eq_false_iff_ne.2 g12
              have e04 : (z0 == 4) = true := beq_iff_eq.2 g04
              have e14 : (z1 == 4) = false := beq_eq_false_iff_ne.2 g14
              have n02 : ¬ z0 = 2 := by omega
              have e02 : (z0 == 2) = false := beq_eq_false_iff_ne.2 n02
              clear RW
              go_wp2_with fail
              refine (K0.out wr (Below.refl _ _)).mono ?_
              rintro e w5 ⟨rfl, b5⟩
              have B5 := Lib.hid (b5)
              clear b5
              go_wp2_with fail
              refine (K1.out w5 B5.out).mono ?_
              rintro e w6 ⟨rfl, b6⟩
              have B6 := Lib.hid (B5.out.trans (b6.mono B5.out.size))
              clear b6
              go_wp2_with fail
              refine (K0.out w6 B6.out).mono ?_
              rintro e w7 ⟨rfl, b7⟩
              have B7 := Lib.hid (B6.out.trans (b7.mono B6.out.size))
              clear b7
              go_wp2_with fail
              refine (K1.out w7 B7.out).mono ?_
              rintro e w8 ⟨rfl, b8⟩
              have B8 := Lib.hid (B7.out.trans (b8.mono B7.out.size))
              clear b8
              have P9 := Lib.hid (PP.out.below B8.out)
              have BB9 := Lib.hid (BB.out.trans (B8.out.mono BB.out.size))
              have L0 : Hid (Lf false a 0) := Lib.hid (LS.out false (fun g => g14 g.2) (fun g => Bool.noConfusion g))
              clear LS DOWN K0 K1 e04 e14 e02 e12 PP BB
              go_wp2
              go_loopw [6] (fun i wr => ∃ (c : Nat) (a : A) (t : Nat), c ≤ 9 ∧ t ≤ 200 + c ∧ i = .int .i64 c ∧ Hid (Pr wr s a t) ∧ Hid (Lf false a c) ∧ Hid (Below w.heap.size w wr)) (fun i _ => 20 - (intOf i).toNat)
              case atStart => exact ⟨0, a, t, by omega, by omega, rfl, P9, L0, BB9⟩
              case round =>
                clear P9 L0 BB9
                obtain ⟨c, a, t, hc, ht2, rfl, PP, LF, BB⟩ := hrel
                have CA := Lib.hid (round_any PP.out (by omega))
                by_cases e : opn a = -1
                · obtain ⟨l1, l2, l3⟩ := LF.out.next e
                  have L1 := Lib.hid l1
                  have l4 := l3
                  rw [e] at CA
                  clear e l1 LF l3
                  go_wp2_with fail
                  refine CA.out.mono ?_
                  rintro e w10 ⟨rfl, p10, o10⟩
                  have B10 := Lib.hid (low BB.out o10 HS.out)
                  have P10 := Lib.hid p10
                  clear p10 o10 PP BB CA
                  generalize rnd a = a' at *
                  go_wp2
                  go_roundw
                  case rel => exact ⟨c + 1, a', t + 1, by omega, by omega, by go_num, P10, L1, B10⟩
                  case measure => simp [intOf]; omega
                · obtain ⟨l1, l2⟩ := LF.out.fin e
                  have L2 := Lib.hid l2
                  clear e l2 LF
                  generalize opn a = o at *
                  have o1 : ¬ o < 0 := by omega
                  go_wp2_with fail
                  refine CA.out.mono ?_
                  rintro e w10 ⟨rfl, p10, o10⟩
                  have B10 := Lib.hid (low BB.out o10 HS.out)
                  have P10 := Lib.hid p10
                  have C10 := Lib.hid (awake_any w10)
                  clear p10 o10 PP BB CA
                  generalize rnd a = a' at *
                  go_wp2_with fail
                  refine C10.out.mono ?_
                  rintro e w11 ⟨rfl, b11⟩
                  have B11 := Lib.hid (B10.out.trans (b11.mono B10.out.size))
                  have C11 := Lib.hid (round_any (P10.out.below b11) (by omega))
                  have o2 : 0 ≤ opn a' := L2.out
                  clear b11 C10 P10 B10 L2
                  generalize opn a' = o' at *
                  go_wp2_with fail
                  refine C11.out.mono ?_
                  rintro e w12 ⟨rfl, p12, o12⟩
                  have B12 := Lib.hid (low B11.out o12 HS.out)
                  clear p12 o12 B11 C11
                  go_wp2_with fail
                  refine (round_nil w12).mono ?_
                  rintro e w13 ⟨rfl, b13⟩
                  have B13 := Lib.hid (B12.out.trans (b13.mono B12.out.size))
                  clear b13 B12
                  go_wp2_with fail
                  refine (crash_nil w13 0).mono ?_
                  rintro e w14 ⟨rfl, b14⟩
                  have B14 := Lib.hid (B13.out.trans (b14.mono B13.out.size))
                  clear b14 B13
                  go_wp2_with fail
                  refine (restart_nil w14 0).mono ?_
                  rintro e w15 ⟨rfl, b15⟩
                  have B15 := Lib.hid (B14.out.trans (b15.mono B14.out.size))
                  clear b15 B14
                  go_wp2_with fail
                  refine (role_nil w15 0).mono ?_
                  rintro e w16 ⟨rfl, b16⟩
                  have B16 := Lib.hid (B15.out.trans (b16.mono B15.out.size))
                  clear b16 B15
                  go_wp2
                  go_ret
                  exact ⟨rfl, B16.out⟩
        · by_cases g02 : z0 = 2
          · have e04 : (z0 == 4) = false := beq_eq_false_iff_ne.2 g04
            have e02 : (z0 == 2) = true := beq_iff_eq.2 g02
            clear RW
            go_wp2_with fail
            refine (K0.out wr (Below.refl _ _)).mono ?_
            rintro e w5 ⟨rfl, b5⟩
            have B5 := Lib.hid (b5)
            clear b5
            go_wp2_with fail
            refine (K0.out w5 B5.out).mono ?_
            rintro e w6 ⟨rfl, b6⟩
            have B6 := Lib.hid (B5.out.trans (b6.mono B5.out.size))
            clear b6
            have P9 := Lib.hid (PP.out.below B6.out)
            have BB9 := Lib.hid (BB.out.trans (B6.out.mono BB.out.size))
            have L0 : Hid (Lf true a 0) := Lib.hid (LS.out true (fun g => g04 g.1) (fun _ => .inl g02))
            clear LS DOWN K0 K1 e04 e02 PP BB
            go_wp2
            go_loopw [6] (fun i wr => ∃ (c : Nat) (a : A) (t : Nat), c ≤ 9 ∧ t ≤ 200 + c ∧ i = .int .i64 c ∧ Hid (Pr wr s a t) ∧ Hid (Lf true a c) ∧ Hid (Below w.heap.size w wr)) (fun i _ => 20 - (intOf i).toNat)
            case atStart => exact ⟨0, a, t, by omega, by omega, rfl, P9, L0, BB9⟩
            case round =>
              clear P9 L0 BB9
              obtain ⟨c, a, t, hc, ht2, rfl, PP, LF, BB⟩ := hrel
              have CA := Lib.hid (round_any PP.out (by omega))
              by_cases e : opn a = -1
              · obtain ⟨l1, l2, l3⟩ := LF.out.next e
                have L1 := Lib.hid l1
                have l4 := l3 rfl
                rw [e] at CA
                clear e l1 LF l3
                go_wp2_with fail
                refine CA.out.mono ?_
                rintro e w10 ⟨rfl, p10, o10⟩
                have B10 := Lib.hid (low BB.out o10 HS.out)
                have P10 := Lib.hid p10
                clear p10 o10 PP BB CA
                generalize rnd a = a' at *
                go_wp2
                go_roundw
                case rel => exact ⟨c + 1, a', t + 1, by omega, by omega, by go_num, P10, L1, B10⟩
                case measure => simp [intOf]; omega
              · obtain ⟨l1, l2⟩ := LF.out.fin e
                have L2 := Lib.hid l2
                clear e l2 LF
                generalize opn a = o at *
                have o1 : ¬ o < 0 := by omega
                go_wp2_with fail
                refine CA.out.mono ?_
                rintro e w10 ⟨rfl, p10, o10⟩
                have B10 := Lib.hid (low BB.out o10 HS.out)
                have P10 := Lib.hid p10
                have C10 := Lib.hid (awake_any w10)
                clear p10 o10 PP BB CA
                generalize rnd a = a' at *
                go_wp2_with fail
                refine C10.out.mono ?_
                rintro e w11 ⟨rfl, b11⟩
                have B11 := Lib.hid (B10.out.trans (b11.mono B10.out.size))
                have C11 := Lib.hid (round_any (P10.out.below b11) (by omega))
                have o2 : 0 ≤ opn a' := L2.out
                clear b11 C10 P10 B10 L2
                generalize opn a' = o' at *
                go_wp2_with fail
                refine C11.out.mono ?_
                rintro e w12 ⟨rfl, p12, o12⟩
                have B12 := Lib.hid (low B11.out o12 HS.out)
                clear p12 o12 B11 C11
                go_wp2_with fail
                refine (round_nil w12).mono ?_
                rintro e w13 ⟨rfl, b13⟩
                have B13 := Lib.hid (B12.out.trans (b13.mono B12.out.size))
                clear b13 B12
                go_wp2_with fail
                refine (crash_nil w13 0).mono ?_
                rintro e w14 ⟨rfl, b14⟩
                have B14 := Lib.hid (B13.out.trans (b14.mono B13.out.size))
                clear b14 B13
                go_wp2_with fail
                refine (restart_nil w14 0).mono ?_
                rintro e w15 ⟨rfl, b15⟩
                have B15 := Lib.hid (B14.out.trans (b15.mono B14.out.size))
                clear b15 B14
                go_wp2_with fail
                refine (role_nil w15 0).mono ?_
                rintro e w16 ⟨rfl, b16⟩
                have B16 := Lib.hid (B15.out.trans (b16.mono B15.out.size))
                clear b16 B15
                go_wp2
                go_ret
                exact ⟨rfl, B16.out⟩
          · by_cases g12 : z1 = 2
            · have e12 : (z1 == 2) = true := beq_iff_eq.2 g12
              have e04 : (z0 == 4) = false := beq_eq_false_iff_ne.2 g04
              have e02 : (z0 == 2) = false := beq_eq_false_iff_ne.2 g02
              clear RW
              go_wp2_with fail
              refine (K0.out wr (Below.refl _ _)).mono ?_
              rintro e w5 ⟨rfl, b5⟩
              have B5 := Lib.hid (b5)
              clear b5
              go_wp2_with fail
              refine (K0.out w5 B5.out).mono ?_
              rintro e w6 ⟨rfl, b6⟩
              have B6 := Lib.hid (B5.out.trans (b6.mono B5.out.size))
              clear b6
              go_wp2_with fail
              refine (K1.out w6 B6.out).mono ?_
              rintro e w7 ⟨rfl, b7⟩
              have B7 := Lib.hid (B6.out.trans (b7.mono B6.out.size))
              clear b7
              have P9 := Lib.hid (PP.out.below B7.out)
              have BB9 := Lib.hid (BB.out.trans (B7.out.mono BB.out.size))
              have L0 : Hid (Lf true a 0) := Lib.hid (LS.out true (fun g => g04 g.1) (fun _ => .inr g12))
              clear LS DOWN K0 K1 e04 e02 e12 PP BB
              go_wp2
              go_loopw [6] (fun i wr => ∃ (c : Nat) (a : A) (t : Nat), c ≤ 9 ∧ t ≤ 200 + c ∧ i = .int .i64 c ∧ Hid (Pr wr s a t) ∧ Hid (Lf true a c) ∧ Hid (Below w.heap.size w wr)) (fun i _ => 20 - (intOf i).toNat)
              case atStart => exact ⟨0, a, t, by omega, by omega, rfl, P9, L0, BB9⟩
              case round =>
                clear P9 L0 BB9
                obtain ⟨c, a, t, hc, ht2, rfl, PP, LF, BB⟩ := hrel
                have CA := Lib.hid (round_any PP.out (by omega))
                by_cases e : opn a = -1
                · obtain ⟨l1, l2, l3⟩ := LF.out.next e
                  have L1 := Lib.hid l1
                  have l4 := l3 rfl
                  rw [e] at CA
                  clear e l1 LF l3
                  go_wp2_with fail
                  refine CA.out.mono ?_
                  rintro e w10 ⟨rfl, p10, o10⟩
                  have B10 := Lib.hid (low BB.out o10 HS.out)
                  have P10 := Lib.hid p10
                  clear p10 o10 PP BB CA
                  generalize rnd a = a' at *
                  go_wp2
                  go_roundw
                  case rel => exact ⟨c + 1, a', t + 1, by omega, by omega, by go_num, P10, L1, B10⟩
                  case measure => simp [intOf]; omega
                · obtain ⟨l1, l2⟩ := LF.out.fin e
                  have L2 := Lib.hid l2
                  clear e l2 LF
                  generalize opn a = o at *
                  have o1 : ¬ o < 0 := by omega
                  go_wp2_with fail
                  refine CA.out.mono ?_
                  rintro e w10 ⟨rfl, p10, o10⟩
                  have B10 := Lib.hid (low BB.out o10 HS.out)
                  have P10 := Lib.hid p10
                  have C10 := Lib.hid (awake_any w10)
                  clear p10 o10 PP BB CA
                  generalize rnd a = a' at *
                  go_wp2_with fail
                  refine C10.out.mono ?_
                  rintro e w11 ⟨rfl, b11⟩
                  have B11 := Lib.hid (B10.out.trans (b11.mono B10.out.size))
                  have C11 := Lib.hid (round_any (P10.out.below b11) (by omega))
                  have o2 : 0 ≤ opn a' := L2.out
                  clear b11 C10 P10 B10 L2
                  generalize opn a' = o' at *
                  go_wp2_with fail
                  refine C11.out.mono ?_
                  rintro e w12 ⟨rfl, p12, o12⟩
                  have B12 := Lib.hid (low B11.out o12 HS.out)
                  clear p12 o12 B11 C11
                  go_wp2_with fail
                  refine (round_nil w12).mono ?_
                  rintro e w13 ⟨rfl, b13⟩
                  have B13 := Lib.hid (B12.out.trans (b13.mono B12.out.size))
                  clear b13 B12
                  go_wp2_with fail
                  refine (crash_nil w13 0).mono ?_
                  rintro e w14 ⟨rfl, b14⟩
                  have B14 := Lib.hid (B13.out.trans (b14.mono B13.out.size))
                  clear b14 B13
                  go_wp2_with fail
                  refine (restart_nil w14 0).mono ?_
                  rintro e w15 ⟨rfl, b15⟩
                  have B15 := Lib.hid (B14.out.trans (b15.mono B14.out.size))
                  clear b15 B14
                  go_wp2_with fail
                  refine (role_nil w15 0).mono ?_
                  rintro e w16 ⟨rfl, b16⟩
                  have B16 := Lib.hid (B15.out.trans (b16.mono B15.out.size))
                  clear b16 B15
                  go_wp2
                  go_ret
                  exact ⟨rfl, B16.out⟩
            · have e12 : (z1 == 2) = false := beq_eq_false_iff_ne.2 g12
              have e04 : (z0 == 4) = false := beq_eq_false_iff_ne.2 g04
              have e02 : (z0 == 2) = false := beq_eq_false_iff_ne.2 g02
              clear RW
              go_wp2_with fail
              refine (K0.out wr (Below.refl _ _)).mono ?_
              rintro e w5 ⟨rfl, b5⟩
              have B5 := Lib.hid (b5)
              clear b5
              go_wp2_with fail
              refine (K0.out w5 B5.out).mono ?_
              rintro e w6 ⟨rfl, b6⟩
              have B6 := Lib.hid (B5.out.trans (b6.mono B5.out.size))
              clear b6
              go_wp2_with fail
              refine (K1.out w6 B6.out).mono ?_
              rintro e w7 ⟨rfl, b7⟩
              have B7 := Lib.hid (B6.out.trans (b7.mono B6.out.size))
              clear b7
              have P9 := Lib.hid (PP.out.below B7.out)
              have BB9 := Lib.hid (BB.out.trans (B7.out.mono BB.out.size))
              have L0 : Hid (Lf false a 0) := Lib.hid (LS.out false (fun g => g04 g.1) (fun g => Bool.noConfusion g))
              clear LS DOWN K0 K1 e04 e02 e12 PP BB
              go_wp2
              go_loopw [6] (fun i wr => ∃ (c : Nat) (a : A) (t : Nat), c ≤ 9 ∧ t ≤ 200 + c ∧ i = .int .i64 c ∧ Hid (Pr wr s a t) ∧ Hid (Lf false a c) ∧ Hid (Below w.heap.size w wr)) (fun i _ => 20 - (intOf i).toNat)
              case atStart => exact ⟨0, a, t, by omega, by omega, rfl, P9, L0, BB9⟩
              case round =>
                clear P9 L0 BB9
                obtain ⟨c, a, t, hc, ht2, rfl, PP, LF, BB⟩ := hrel
                have CA := Lib.hid (round_any PP.out (by omega))
                by_cases e : opn a = -1
                · obtain ⟨l1, l2, l3⟩ := LF.out.next e
                  have L1 := Lib.hid l1
                  have l4 := l3
                  rw [e] at CA
                  clear e l1 LF l3
                  go_wp2_with fail
                  refine CA.out.mono ?_
                  rintro e w10 ⟨rfl, p10, o10⟩
                  have B10 := Lib.hid (low BB.out o10 HS.out)
                  have P10 := Lib.hid p10
                  clear p10 o10 PP BB CA
                  generalize rnd a = a' at *
                  go_wp2
                  go_roundw
                  case rel => exact ⟨c + 1, a', t + 1, by omega, by omega, by go_num, P10, L1, B10⟩
                  case measure => simp [intOf]; omega
                · obtain ⟨l1, l2⟩ := LF.out.fin e
                  have L2 := Lib.hid l2
                  clear e l2 LF
                  generalize opn a = o at *
                  have o1 : ¬ o < 0 := by omega
                  go_wp2_with fail
                  refine CA.out.mono ?_
                  rintro e w10 ⟨rfl, p10, o10⟩
                  have B10 := Lib.hid (low BB.out o10 HS.out)
                  have P10 := Lib.hid p10
                  have C10 := Lib.hid (awake_any w10)
                  clear p10 o10 PP BB CA
                  generalize rnd a = a' at *
                  go_wp2_with fail
                  refine C10.out.mono ?_
                  rintro e w11 ⟨rfl, b11⟩
                  have B11 := Lib.hid (B10.out.trans (b11.mono B10.out.size))
                  have C11 := Lib.hid (round_any (P10.out.below b11) (by omega))
                  have o2 : 0 ≤ opn a' := L2.out
                  clear b11 C10 P10 B10 L2
                  generalize opn a' = o' at *
                  go_wp2_with fail
                  refine C11.out.mono ?_
                  rintro e w12 ⟨rfl, p12, o12⟩
                  have B12 := Lib.hid (low B11.out o12 HS.out)
                  clear p12 o12 B11 C11
                  go_wp2_with fail
                  refine (round_nil w12).mono ?_
                  rintro e w13 ⟨rfl, b13⟩
                  have B13 := Lib.hid (B12.out.trans (b13.mono B12.out.size))
                  clear b13 B12
                  go_wp2_with fail
                  refine (crash_nil w13 0).mono ?_
                  rintro e w14 ⟨rfl, b14⟩
                  have B14 := Lib.hid (B13.out.trans (b14.mono B13.out.size))
                  clear b14 B13
                  go_wp2_with fail
                  refine (restart_nil w14 0).mono ?_
                  rintro e w15 ⟨rfl, b15⟩
                  have B15 := Lib.hid (B14.out.trans (b15.mono B14.out.size))
                  clear b15 B14
                  go_wp2_with fail
                  refine (role_nil w15 0).mono ?_
                  rintro e w16 ⟨rfl, b16⟩
                  have B16 := Lib.hid (B15.out.trans (b16.mono B15.out.size))
                  clear b16 B15
                  go_wp2
                  go_ret
                  exact ⟨rfl, B16.out⟩

end Go.Proofs.Ytabhpafmppmigaa.Wt
