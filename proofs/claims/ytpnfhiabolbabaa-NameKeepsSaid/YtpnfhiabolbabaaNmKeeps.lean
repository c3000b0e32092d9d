/- NameKeeps: what comes of a list that may be. -/
import Derived.Test.YtpnfhiabolbabaaNmAssigns
import Derived.Deep.CutRange
namespace Go.Proofs.Ytpnfhiabolbabaa.Nm
open Go.RowKit
open Go.Proofs.Ytpnfhiabolbabaa.Rw (Rd Ow At)
open Go.Proofs.Ytpnfhiabolbabaa.Fl (ret_bool at_bool row_cell)

/-- What is known of x and what came of it. -/
structure Kn (x y : List S) (e most : Int) (n : Nat) : Prop where
  lx : x.length = n
  ly : y.length = n
  ph : ∀ i, i < n → (sa y i).1 = (sa x i).1
  na : ∀ i, i < n → 0 < (sa x i).2 → (sa y i).2 = (sa x i).2
  nz : e = 0 → ∀ i, i < n → (sa y i).2 ≠ 0
  od : ∀ i k, i < n → k < n → (sa x i).2 = 0 → (sa x k).2 = 0 → 0 < (sa y i).2 → (sa x k).1 < (sa x i).1 → (sa y k).2 ≠ 0 ∧ ¬ (sa y i).2 < (sa y k).2
  big : 64 ≤ most → e = 0
theorem kn_of {x : List S} (g : Gd x) (most : Int) : Kn x (asL x most) (asE x most) most x.length ∧ Gd (asL x most) := by
  have K : Kp x (asL x most) := asg_kp (Kp.start g)
  refine ⟨⟨rfl, K.len, K.phys, K.named, fun h i hi => ?_, fun i k hi hk h1 h2 h3 h4 => ?_, fun h => asg_most h g.len⟩, K.gd⟩
  · exact asg_named (Nat.lt_succ_of_le (cn_le x)) h i (show i < (asL x most).length by rw [K.len]; exact hi)
  · have := K.order i k hi hk h1 h2 h3 h4
    omega

set_option maxHeartbeats 8000000 in
set_option maxRecDepth 100000 in
theorem keeps_law (w : World) (v : Value) (l : List S) (most : Int) (R : Rd KV w v l) (F : Fit l) : Calls Try.prog 4 #[v, .int .i64 most] w fun e w' => e = .returned (.bool true) ∧ Below w.heap.size w w' := by
  have CF := Lib.hid (few_any w v l R)
  have F1 := Lib.hid (F.take 40)
  have L1 : Hid ((l.take 40).length ≤ 40) := Lib.hid (by rw [List.length_take]; omega)
  obtain ⟨a, cap, rfl, _⟩ := R.slice
  clear R F
  generalize l.length = n at *
  unfold FewPost at CF
  generalize l.take 40 = x at *
  go_enter Try.func4, Try.ntmps4
  go_wp2_with fail
  refine CF.out.mono ?_
  rintro e w1 ⟨u, rfl, r1, b1⟩
  have R1 := Lib.hid r1
  obtain ⟨a1, c1, rfl, _, _, hA1⟩ := r1
  have B1 := Lib.hid b1
  have C1 := Lib.hid (good_any w1 _ x R1.out F1.out)
  clear b1 CF hA1
  rcases hq : gdB x with _ | _
  · rw [hq] at C1
    clear hq R1 F1 L1
    generalize x.length = m at *
    go_wp2_with fail
    refine C1.out.mono ?_
    rintro e w4 ⟨rfl, b4⟩
    have B4 := Lib.hid (B1.out.trans (b4.mono B1.out.size))
    have C4 := Lib.hid (awake_any w4)
    clear b4 C1 B1
    go_wp2_with fail
    refine C4.out.mono ?_
    rintro e w5 ⟨rfl, b5⟩
    have B5 := Lib.hid (B4.out.trans (b5.mono B4.out.size))
    clear b5 C4 B4
    go_wp2
    go_ret
    exact ⟨rfl, B5.out⟩
  · rw [hq] at C1
    obtain ⟨kn, gd⟩ := kn_of (gdB_iff.1 hq) most
    have KN := Lib.hid kn
    have GY := Lib.hid gd
    have C2 := Lib.hid (fun W (R : Rd KV W (.slice a1 x.length c1) x) => assign_any W _ x R F1.out (by have := L1.out; omega) most)
    have FY : Hid (Fit (asL x most)) := Lib.hid (fun i hi => by
      have g0 := gd.num hi
      unfold okN at g0
      have hi' : i < x.length := by rw [← kn.ly]; exact hi
      have := kn.ph i hi'
      have := F1.out i hi'
      omega)
    unfold AssignPost at C2
    clear kn gd hq F1
    generalize asL x most = y at *
    generalize asE x most = er at *
    have hm40 := L1.out
    generalize hm : x.length = m at *
    clear hm L1
    go_wp2_with fail
    refine C1.out.mono ?_
    rintro e w2 ⟨rfl, b2⟩
    have B2 := Lib.hid (B1.out.trans (b2.mono B1.out.size))
    have R2 := Lib.hid (R1.out.below b2)
    have D2 := Lib.hid (C2.out w2 R2.out)
    clear b2 C1 C2 B1 R1
    go_wp2_with fail
    refine D2.out.mono ?_
    rintro e w3 ⟨ub, rfl, ob, b3⟩
    have B3 := Lib.hid (B2.out.trans (b3.mono B2.out.size))
    have R3 := Lib.hid (R2.out.below b3)
    have Y3 := Lib.hid ob.rd
    obtain ⟨a2, c2, rfl, _, _⟩ := ob.slice
    have C3 := Lib.hid (good_any w3 _ y Y3.out FY.out)
    rw [gdB_yes GY.out] at C3
    rw [KN.out.ly] at C3 Y3
    rw [KN.out.ly]
    clear b3 D2 B2 R2 ob GY FY
    go_wp2_with fail
    refine C3.out.mono ?_
    rintro e w4 ⟨rfl, b4⟩
    have B4 := Lib.hid (B3.out.trans (b4.mono B3.out.size))
    have R4 := Lib.hid (R3.out.below b4)
    have Y4 := Lib.hid (Y3.out.below b4)
    clear b4 C3 B3 R3 Y3
    obtain ⟨q1, q2, e, _, _, hA⟩ := R4.out
    injection e with e1 e2 e3
    subst e1 e3
    rw [KN.out.lx] at hA
    obtain ⟨q1, q2, e, _, _, hB⟩ := Y4.out
    injection e with e1 e3 e4
    subst e1 e4
    rw [KN.out.ly] at hB
    have HA := Lib.hid hA
    have HB := Lib.hid hB
    clear hA hB e2 e3 R4 Y4
    go_wp2
    go_loopw [8] (fun i wr => ∃ k : Nat, k ≤ m ∧ i = .int .i64 k ∧ Hid (Below w4.heap.size w4 wr)) (fun i _ => m - (intOf i).toNat)
    case atStart => exact ⟨0, Nat.zero_le _, rfl, Below.refl _ _⟩
    case round =>
      obtain ⟨i, hi, rfl, bw⟩ := hrel
      by_cases hlt : i < m
      · obtain ⟨b, off, rfl, A⟩ := HA.out (by omega)
        obtain ⟨b', off', rfl, A'⟩ := HB.out (by omega)
        obtain ⟨c0, c1⟩ := atV (A.below bw.out) (i := i) (by rw [KN.out.lx]; exact hlt)
        obtain ⟨d0, d1⟩ := atV (A'.below bw.out) (i := i) (by rw [KN.out.ly]; exact hlt)
        have HA2 := Lib.hid A
        have HB2 := Lib.hid A'
        rw [KN.out.ph i hlt] at d0
        have KA := Lib.hid (KN.out.na i hlt)
        have KZ := Lib.hid (fun h => KN.out.nz h i hlt)
        clear A A'
        have IN : Hid (∀ wr', Below w4.heap.size w4 wr' → wr'.cell? ⟨b, off + i * 2, none⟩ = some (.int .u64 (sa x i).1) ∧ wr'.cell? ⟨b, off + i * 2 + 1, none⟩ = some (.int .i64 (sa x i).2) ∧ wr'.cell? ⟨b', off' + i * 2, none⟩ = some (.int .u64 (sa x i).1) ∧ wr'.cell? ⟨b', off' + i * 2 + 1, none⟩ = some (.int .i64 (sa y i).2)) := Lib.hid (fun wr' h => by
          obtain ⟨g0, g1⟩ := atV (HA2.out.below h) (i := i) (by rw [KN.out.lx]; exact hlt)
          obtain ⟨g2, g3⟩ := atV (HB2.out.below h) (i := i) (by rw [KN.out.ly]; exact hlt)
          rw [KN.out.ph i hlt] at g2
          exact ⟨g0, g1, g2, g3⟩)
        have OD := Lib.hid (fun k (hk : k < m) => KN.out.od i k hlt hk)
        generalize hx1 : (sa x i).1 = x1 at *
        generalize hx2 : (sa x i).2 = x2 at *
        generalize hy2 : (sa y i).2 = y2 at *
        clear hx1 hx2 hy2
        have n1 : (x1 != x1) = false := by simp
        have n1' : decide (x1 = x1) = true := decide_eq_true rfl
        go_upto_region 10 with fail
        go_cut [81] from 32 to 143 (fun r wx => Value.bool false = r ∧ Hid (Below w4.heap.size w4 wx))
        case first =>
          by_cases p1 : 0 < x2
          · have q1 : decide (0 < x2) = true := decide_eq_true p1
            have ey := KA.out p1
            rw [ey] at d1
            have n2 : (x2 != x2) = false := by simp
            have n2' : decide (x2 = x2) = true := decide_eq_true rfl
            have z2 : (x2 == 0) = false := beq_eq_false_iff_ne.2 (by omega)
            have z2' : decide (x2 = 0) = false := decide_eq_false (by omega)
            clear ey KA KZ IN OD p1
            by_cases he : er = 0
            · have e1 : decide (er = 0) = true := decide_eq_true he
              have e2 : (er == 0) = true := beq_iff_eq.2 he
              clear he
              go_quiet (fail)
              go_wp2
              go_meet
              exact ⟨rfl, Lib.hid (below_drewN bw.out _)⟩
            · have e1 : decide (er = 0) = false := decide_eq_false he
              have e2 : (er == 0) = false := beq_eq_false_iff_ne.2 he
              clear he
              go_quiet (fail)
              go_wp2
              go_meet
              exact ⟨rfl, Lib.hid (below_drewN bw.out _)⟩
          · have q1 : decide (0 < x2) = false := decide_eq_false p1
            by_cases he : er = 0
            · have e1 : decide (er = 0) = true := decide_eq_true he
              have e2 : (er == 0) = true := beq_iff_eq.2 he
              have z2 : (y2 == 0) = false := beq_eq_false_iff_ne.2 (KZ.out he)
              have z2' : decide (y2 = 0) = false := decide_eq_false (KZ.out he)
              clear he KA KZ IN OD p1
              go_quiet (fail)
              go_wp2
              go_meet
              exact ⟨rfl, Lib.hid (below_drewN bw.out _)⟩
            · have e1 : decide (er = 0) = false := decide_eq_false he
              have e2 : (er == 0) = false := beq_eq_false_iff_ne.2 he
              clear he KA KZ IN OD p1
              go_quiet (fail)
              go_wp2
              go_meet
              exact ⟨rfl, Lib.hid (below_drewN bw.out _)⟩
        case rest =>
          obtain ⟨e1, B5⟩ := hcut
          subst e1
          clear n1 n1' c0 c1 d0 d1 bw KA KZ
          go_wp2
          go_loopw [9] (fun j wr => ∃ k : Nat, k ≤ m ∧ j = .int .i64 k ∧ Hid (Below w4.heap.size w4 wr)) (fun j _ => m - (intOf j).toNat)
          case atStart => exact ⟨0, Nat.zero_le _, rfl, B5⟩
          case round =>
            clear B5
            obtain ⟨k, hk, rfl, bw⟩ := hrel
            by_cases hkt : k < m
            · obtain ⟨c0, c1, d0, d1⟩ := IN.out _ bw.out
              obtain ⟨f0, f1⟩ := atV (HA2.out.below bw.out) (i := k) (by rw [KN.out.lx]; exact hkt)
              obtain ⟨h0, h1⟩ := atV (HB2.out.below bw.out) (i := k) (by rw [KN.out.ly]; exact hkt)
              rw [KN.out.ph k hkt] at h0
              have ODk := Lib.hid (OD.out k hkt)
              clear OD IN
              generalize (sa x k).1 = v1 at *
              generalize (sa x k).2 = v2 at *
              generalize (sa y k).2 = t2 at *
              go_upto_region 15 with fail
              go_cut [143] from 82 to 143 (fun r wx => Value.bool false = r ∧ Hid (Below w4.heap.size w4 wx))
              case first =>
                by_cases p1 : x2 = 0
                · have q1 : (x2 == 0) = true := beq_iff_eq.2 p1
                  have q1' : decide (x2 = 0) = true := decide_eq_true p1
                  by_cases p2 : v2 = 0
                  · have q2 : (v2 == 0) = true := beq_iff_eq.2 p2
                    have q2' : decide (v2 = 0) = true := decide_eq_true p2
                    by_cases p3 : 0 < y2
                    · have q3 : decide (0 < y2) = true := decide_eq_true p3
                      by_cases p4 : v1 < x1
                      · have q4 : decide (v1 < x1) = true := decide_eq_true p4
                        obtain ⟨g1, g2⟩ := ODk.out p1 p2 p3 p4
                        have q5 : (t2 == 0) = false := beq_eq_false_iff_ne.2 g1
                        have q5' : decide (t2 = 0) = false := decide_eq_false g1
                        have q6 : decide (y2 < t2) = false := decide_eq_false (by omega)
                        clear p1 p2 p3 p4 g1 g2 ODk
                        go_quiet (fail)
                        go_wp2
                        go_meet
                        exact ⟨rfl, Lib.hid (below_drewN bw.out _)⟩
                      · have q4 : decide (v1 < x1) = false := decide_eq_false p4
                        clear p1 p2 p3 p4 ODk
                        go_quiet (fail)
                        go_wp2
                        go_meet
                        exact ⟨rfl, Lib.hid (below_drewN bw.out _)⟩
                    · have q3 : decide (0 < y2) = false := decide_eq_false p3
                      clear p1 p2 p3 ODk
                      go_quiet (fail)
                      go_wp2
                      go_meet
                      exact ⟨rfl, Lib.hid (below_drewN bw.out _)⟩
                  · have q2 : (v2 == 0) = false := beq_eq_false_iff_ne.2 p2
                    have q2' : decide (v2 = 0) = false := decide_eq_false p2
                    clear p1 p2 ODk
                    go_quiet (fail)
                    go_wp2
                    go_meet
                    exact ⟨rfl, Lib.hid (below_drewN bw.out _)⟩
                · have q1 : (x2 == 0) = false := beq_eq_false_iff_ne.2 p1
                  have q1' : decide (x2 = 0) = false := decide_eq_false p1
                  clear p1 ODk
                  go_quiet (fail)
                  go_wp2
                  go_meet
                  exact ⟨rfl, Lib.hid (below_drewN bw.out _)⟩
              case rest =>
                obtain ⟨e1, B6⟩ := hcut
                subst e1
                clear c0 c1 d0 d1 f0 f1 h0 h1 bw ODk
                go_wp2
                go_roundw
                case rel => exact ⟨k + 1, by omega, by go_num, B6⟩
                case measure => simp [intOf]; omega
            · obtain rfl : k = m := by omega
              go_wp2
              go_roundw
              case rel => exact ⟨i + 1, by omega, by go_num, bw⟩
              case measure => simp [intOf]; omega
      · obtain rfl : i = m := by omega
        have BIG := Lib.hid KN.out.big
        have B5 := Lib.hid (B4.out.trans (bw.out.mono B4.out.size))
        have C5 := Lib.hid (awake_any wr)
        clear KN HA HB bw B4
        by_cases h64 : most < 64
        · clear BIG
          go_wp2_with fail
          refine C5.out.mono ?_
          rintro e w6 ⟨rfl, b6⟩
          have B6 := Lib.hid (B5.out.trans (b6.mono B5.out.size))
          clear b6 C5 B5
          go_wp2
          go_ret
          exact ⟨rfl, B6.out⟩
        · obtain rfl := BIG.out (by omega)
          clear BIG
          go_wp2_with fail
          refine C5.out.mono ?_
          rintro e w6 ⟨rfl, b6⟩
          have B6 := Lib.hid (B5.out.trans (b6.mono B5.out.size))
          clear b6 C5 B5
          go_wp2
          go_ret
          exact ⟨rfl, B6.out⟩

end Go.Proofs.Ytpnfhiabolbabaa.Nm
