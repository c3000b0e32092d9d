/- BaptizeSafe: whatever is lost, names stay, no two are one, and it ends in so many rounds. -/
import Derived.Test.YtbbbempdaipmnaaBpRuns
import Derived.Test.YtbbbempdaipmnaaNmCode
import Derived.Deep.CutRange
namespace Go.Proofs.Ytbbbempdaipmnaa.Bp
open Go.RowKit
open Go.Proofs.Ytbbbempdaipmnaa.Rw (Rd Ow At)
open Go.Proofs.Ytbbbempdaipmnaa.Fl (ret_bool at_bool row_cell)
open Go.Proofs.Ytbbbempdaipmnaa.Nm (S sa Gd KV Fit FewPost sameB gdB gdB_iff gdB_yes cn cn_le okN atV)

/-- What is known of x and what came of it. -/
structure Ks (x y : List S) (e : Int) (r D : Nat) (n : Nat) : Prop where
  lx : x.length = n
  ly : y.length = n
  ph : ∀ i, i < n → (sa y i).1 = (sa x i).1
  na : ∀ i, i < n → 0 < (sa x i).2 → (sa y i).2 = (sa x i).2
  nz : e = 0 → ∀ i, i < n → (sa y i).2 ≠ 0
  le : r ≤ D + 67 * (cn x + 1)
theorem ks_of {x : List S} (g : Gd x) (F : Fit x) (most : Int) (L : List Bool) : Ks x (rnL x most L) (rnE x most L) (rnN x most L) L.length x.length ∧ Gd (rnL x most L) := by
  obtain ⟨K, h2, h3⟩ := run_safe most L g (fit_low F)
  exact ⟨⟨rfl, K.len, K.phys, K.named, fun h i hi => cn_zero (h3 h) (by rw [K.len]; exact hi), h2⟩, K.gd⟩
theorem cnK_le (x : List S) : ∀ k, cnK x k ≤ k
  | 0 => Nat.le_refl _
  | k + 1 => by
    have := cnK_le x k
    show (if (sa x k).2 = 0 then cnK x k + 1 else cnK x k) ≤ _
    split <;> omega

set_option maxHeartbeats 8000000 in
set_option maxRecDepth 100000 in
theorem safe_law (w : World) (v u : Value) (l : List S) (L : List Bool) (most : Int) (R : Rd KV w v l) (F : Fit l) (G : Rd KG w u L) : Calls Try.prog 4 #[v, .int .i64 most, u] w fun e w' => e = .returned (.bool true) ∧ Below w.heap.size w w' := by
  have CF := Lib.hid (few_any w v l R)
  have F1 := Lib.hid (fit_take F 40)
  have L1 : Hid ((l.take 40).length ≤ 40) := Lib.hid (by rw [List.length_take]; omega)
  have L2 : Hid ((L.take 600).length ≤ 600) := Lib.hid (by rw [List.length_take]; omega)
  have CSO := Lib.hid (fun W (b : Below w.heap.size w W) => some_any W u L (G.below b))
  obtain ⟨a, n, cap, rfl⟩ := rd_form R
  obtain ⟨a', n', cap', rfl⟩ := rd_form G
  clear R F G
  unfold FewPost at CF
  unfold SomePost at CSO
  generalize l.take 40 = x at *
  generalize L.take 600 = y at *
  go_enter Try.func4, Try.ntmps4
  go_wp2_with fail
  refine CF.out.mono ?_
  rintro e w1 ⟨ux, rfl, r1, b1⟩
  have R1 := Lib.hid r1
  obtain ⟨a1, c1, rfl, _, _, hA1⟩ := r1
  have B1 := Lib.hid b1
  have C1 := Lib.hid (Nm.good_any w1 _ x R1.out F1.out)
  clear b1 CF hA1
  rcases hq : gdB x with _ | _
  · rw [hq] at C1
    clear hq R1 F1 L1
    generalize x.length = m at *
    go_wp2_with fail
    refine C1.out.mono ?_
    rintro e w4 ⟨rfl, b4⟩
    have B4 := Lib.hid (B1.out.trans (b4.mono B1.out.size))
    have C4 := Lib.hid (awake_any w4)
    clear b4 C1 B1
    go_wp2_with fail
    refine C4.out.mono ?_
    rintro e w5 ⟨rfl, b5⟩
    have B5 := Lib.hid (B4.out.trans (b5.mono B4.out.size))
    clear b5 C4 B4
    go_wp2
    go_ret
    exact ⟨rfl, B5.out⟩
  · rw [hq] at C1
    obtain ⟨kn, gd⟩ := ks_of (gdB_iff.1 hq) F1.out most y
    have KN := Lib.hid kn
    have GY := Lib.hid gd
    have C2 := Lib.hid (fun W u (R : Rd KV W (.slice a1 x.length c1) x) (G : Rd KG W u y) => run_any W _ u x y R F1.out (gdB_iff.1 hq) G (by have := L2.out; omega) most)
    have FY : Hid (Fit (rnL x most y)) := Lib.hid (fun i hi => by
      have g0 := gd.num hi
      unfold okN at g0
      have hi' : i < x.length := by rw [← kn.ly]; exact hi
      have := kn.ph i hi'
      have := F1.out i hi'
      omega)
    unfold RunPost at C2
    clear kn gd hq F1
    generalize rnL x most y = z at *
    generalize rnE x most y = er at *
    generalize rnN x most y = rN at *
    have hm40 := L1.out
    generalize hm : x.length = m at *
    clear hm L1
    have hd600 := L2.out
    generalize hD : y.length = D at *
    have HD := Lib.hid hD
    clear hD L2
    go_wp2_with fail
    refine C1.out.mono ?_
    rintro e w2 ⟨rfl, b2⟩
    have B2 := Lib.hid (B1.out.trans (b2.mono B1.out.size))
    have R2 := Lib.hid (R1.out.below b2)
    have D2 := Lib.hid (CSO.out w2 B2.out)
    clear b2 C1 B1 R1
    go_wp2_with fail
    refine D2.out.mono ?_
    rintro e w3 ⟨us, rfl, g3, b3⟩
    obtain ⟨as_, ns, cs, rfl⟩ := rd_form g3
    have B3 := Lib.hid (B2.out.trans (b3.mono B2.out.size))
    have R3 := Lib.hid (R2.out.below b3)
    have D3 := Lib.hid (C2.out w3 _ R3.out g3)
    clear b3 g3 D2 C2 B2 R2
    go_wp2_with fail
    refine D3.out.mono ?_
    rintro e w4 ⟨ub, rfl, ob, b4⟩
    have B4 := Lib.hid (B3.out.trans (b4.mono B3.out.size))
    have R4 := Lib.hid (R3.out.below b4)
    have Y4 := Lib.hid ob.rd
    obtain ⟨a2, c2, rfl, _, _⟩ := ob.slice
    have C4 := Lib.hid (Nm.good_any w4 _ z Y4.out FY.out)
    rw [gdB_yes GY.out] at C4
    rw [KN.out.ly] at C4 Y4
    rw [KN.out.ly]
    clear b4 D3 B3 R3 ob GY FY
    go_wp2_with fail
    refine C4.out.mono ?_
    rintro e w5 ⟨rfl, b5⟩
    have B5 := Lib.hid (B4.out.trans (b5.mono B4.out.size))
    have R5 := Lib.hid (R4.out.below b5)
    have Y5 := Lib.hid (Y4.out.below b5)
    clear b5 C4 B4 R4 Y4
    obtain ⟨q1, q2, e, _, _, hA⟩ := R5.out
    injection e with e1 e2 e3
    subst e1 e3
    rw [KN.out.lx] at hA
    obtain ⟨q1, q2, e, _, _, hB⟩ := Y5.out
    injection e with e1 e3 e4
    subst e1 e4
    rw [KN.out.ly] at hB
    have HA := Lib.hid hA
    have HB := Lib.hid hB
    clear hA hB e2 e3 R5 Y5
    have CL := Lib.hid (fun k => cnK_le x k)
    have CN : Hid (∀ k, cnK x (k + 1) = if (sa x k).2 = 0 then cnK x k + 1 else cnK x k) := Lib.hid (fun k => rfl)
    go_wp2
    go_loopw [11, 12] (fun c i wr => ∃ k : Nat, k ≤ m ∧ i = .int .i64 k ∧ c = .int .i64 (cnK x k : Nat) ∧ Hid (Below w5.heap.size w5 wr)) (fun _ i _ => m - (intOf i).toNat)
    case atStart => exact ⟨0, Nat.zero_le _, rfl, rfl, Below.refl _ _⟩
    case round =>
      obtain ⟨i, hi, rfl, rfl, bw⟩ := hrel
      by_cases hlt : i < m
      · obtain ⟨b, off, rfl, A⟩ := HA.out (by omega)
        obtain ⟨b', off', rfl, A'⟩ := HB.out (by omega)
        obtain ⟨c0, c1⟩ := atV (A.below bw.out) (i := i) (by rw [KN.out.lx]; exact hlt)
        obtain ⟨d0, d1⟩ := atV (A'.below bw.out) (i := i) (by rw [KN.out.ly]; exact hlt)
        have HA2 := Lib.hid A
        have HB2 := Lib.hid A'
        rw [KN.out.ph i hlt] at d0
        have KA := Lib.hid (KN.out.na i hlt)
        have KZ := Lib.hid (fun h => KN.out.nz h i hlt)
        clear A A'
        have IN : Hid (∀ wr', Below w5.heap.size w5 wr' → wr'.cell? ⟨b, off + i * 2 + 1, none⟩ = some (.int .i64 (sa x i).2)) := Lib.hid (fun wr' h => (atV (HA2.out.below h) (i := i) (by rw [KN.out.lx]; exact hlt)).2)
        have CNi := Lib.hid (CN.out i)
        have cl := CL.out i
        generalize hx1 : (sa x i).1 = x1 at *
        generalize hx2 : (sa x i).2 = x2 at *
        generalize hy2 : (sa z i).2 = y2 at *
        clear hx1 hx2 hy2
        generalize hci : cnK x i = ci at *
        clear hci
        have n1 : (x1 != x1) = false := by simp
        have n1' : decide (x1 = x1) = true := decide_eq_true rfl
        go_upto_region 11 with fail
        go_cut [87] from 38 to 95 (fun r wx => Value.bool false = r ∧ Hid (Below w5.heap.size w5 wx))
        case first =>
          by_cases p1 : 0 < x2
          · have q1 : decide (0 < x2) = true := decide_eq_true p1
            have ey := KA.out p1
            rw [ey] at d1
            have n2 : (x2 != x2) = false := by simp
            have n2' : decide (x2 = x2) = true := decide_eq_true rfl
            have z2 : (x2 == 0) = false := beq_eq_false_iff_ne.2 (by omega)
            have z2' : decide (x2 = 0) = false := decide_eq_false (by omega)
            clear ey KA KZ IN p1 CNi
            by_cases he : er = 0
            · have e1 : decide (er = 0) = true := decide_eq_true he
              have e2 : (er == 0) = true := beq_iff_eq.2 he
              clear he
              go_quiet (fail)
              go_wp2
              go_meet
              exact ⟨rfl, Lib.hid (below_drewN bw.out _)⟩
            · have e1 : decide (er = 0) = false := decide_eq_false he
              have e2 : (er == 0) = false := beq_eq_false_iff_ne.2 he
              clear he
              go_quiet (fail)
              go_wp2
              go_meet
              exact ⟨rfl, Lib.hid (below_drewN bw.out _)⟩
          · have q1 : decide (0 < x2) = false := decide_eq_false p1
            by_cases he : er = 0
            · have e1 : decide (er = 0) = true := decide_eq_true he
              have e2 : (er == 0) = true := beq_iff_eq.2 he
              have z2 : (y2 == 0) = false := beq_eq_false_iff_ne.2 (KZ.out he)
              have z2' : decide (y2 = 0) = false := decide_eq_false (KZ.out he)
              clear he KA KZ IN p1 CNi
              go_quiet (fail)
              go_wp2
              go_meet
              exact ⟨rfl, Lib.hid (below_drewN bw.out _)⟩
            · have e1 : decide (er = 0) = false := decide_eq_false he
              have e2 : (er == 0) = false := beq_eq_false_iff_ne.2 he
              clear he KA KZ IN p1 CNi
              go_quiet (fail)
              go_wp2
              go_meet
              exact ⟨rfl, Lib.hid (below_drewN bw.out _)⟩
        case rest =>
          obtain ⟨e1, B6⟩ := hcut
          subst e1
          clear n1 n1' c0 c1 d0 d1 bw KA KZ
          have c1 := IN.out _ B6.out
          clear IN
          by_cases h0 : x2 = 0
          · have CI := Lib.hid (CNi.out.trans (if_pos h0))
            have q1 : (x2 == 0) = true := beq_iff_eq.2 h0
            have q1' : decide (x2 = 0) = true := decide_eq_true h0
            clear h0 CNi
            go_wp2
            go_roundw
            case rel => exact ⟨i + 1, by omega, by go_num, by rw [CI.out]; go_num, B6⟩
            case measure => simp [intOf]; omega
          · have CI := Lib.hid (CNi.out.trans (if_neg h0))
            have q1 : (x2 == 0) = false := beq_eq_false_iff_ne.2 h0
            have q1' : decide (x2 = 0) = false := decide_eq_false h0
            clear h0 CNi
            go_wp2
            go_roundw
            case rel => exact ⟨i + 1, by omega, by go_num, by rw [CI.out], B6⟩
            case measure => simp [intOf]; omega
      · obtain rfl : i = m := by omega
        have hle := KN.out.le
        have hcn : cnK x i = cn x := by rw [← KN.out.lx]; exact cnK_all x
        rw [← hcn] at hle
        have cl := CL.out i
        have B6 := Lib.hid (B5.out.trans (bw.out.mono B5.out.size))
        have C6 := Lib.hid (awake_any wr)
        clear KN HA HB bw B5 hcn CL CN
        generalize cnK x i = ci at *
        have w1 : IntKind.i64.wrap ((ci : Int) + 1) = (ci : Int) + 1 := IntWalk.i64_in _ (by omega)
        have w2 : IntKind.i64.wrap (67 * ((ci : Int) + 1)) = 67 * ((ci : Int) + 1) := IntWalk.i64_in _ (by omega)
        have w3 : IntKind.i64.wrap ((D : Int) + 67 * ((ci : Int) + 1)) = (D : Int) + 67 * ((ci : Int) + 1) := IntWalk.i64_in _ (by omega)
        have w4 : IntKind.i64.wrap ((D : Int) + 67 * ((ci : Int) + 1) + 1) = (D : Int) + 67 * ((ci : Int) + 1) + 1 := IntWalk.i64_in _ (by omega)
        have hfin : (rN : Int) ≤ (D : Int) + 67 * ((ci : Int) + 1) + 1 := by omega
        go_wp2_with fail
        refine C6.out.mono ?_
        rintro e w7 ⟨rfl, b7⟩
        have B7 := Lib.hid (B6.out.trans (b7.mono B6.out.size))
        have C7 := Lib.hid (CSO.out w7 B7.out)
        clear b7 C6 B6
        go_wp2_with fail
        refine C7.out.mono ?_
        rintro e w8 ⟨us, rfl, g8, b8⟩
        obtain ⟨as_, cs, rfl, _⟩ := g8.slice
        rw [HD.out]
        have B8 := Lib.hid (B7.out.trans (b8.mono B7.out.size))
        clear b8 C7 B7 g8
        go_wp2
        go_ret
        exact ⟨rfl, B8.out⟩

end Go.Proofs.Ytbbbempdaipmnaa.Bp
