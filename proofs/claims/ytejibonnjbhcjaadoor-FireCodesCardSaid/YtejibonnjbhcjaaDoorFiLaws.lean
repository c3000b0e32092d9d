/- The two statements of layer 6, walked: each returns true and writes nothing that was there. -/
import Derived.Test.YtejibonnjbhcjaaDoorFiCode
import Derived.Test.YtejibonnjbhcjaaDoorUaPut
import Derived.Test.YtejibonnjbhcjaaDoorUaTake
import Derived.Test.YtejibonnjbhcjaaDoorUaTurn
import Derived.Test.YtejibonnjbhcjaaDoorSd
namespace Go.Proofs.YtejibonnjbhcjaaDoor.Fi
open Go.RowKit
open Go.Proofs.YtejibonnjbhcjaaDoor.Ua (arr Row frm turn bad tb tp te put_any take_any turn_any load_frame store_new no at_three)

def three (i : Nat) : Bool := i = 3
theorem dif_three : dif no three 11 = 1 := by decide
theorem at_int {P : Program} {f : Nat} {args : Array Value} {w : World} {k : IntKind} {a b : Int} (e : a = b) (c : Calls P f args w fun e w' => e = .returned (.int k a) ∧ Below w.heap.size w w') : Calls P f args w fun e w' => e = .returned (.int k b) ∧ Below w.heap.size w w' := by rw [← e]; exact c

set_option maxHeartbeats 1000000 in
theorem awake_any (w : World) (T : Tab w) : Calls Tryd.prog 9 #[] w fun e w' => e = .returned (.bool true) ∧ Below w.heap.size w w' := by
  have T0 := Lib.hid T
  have C1 := Lib.hid (at_two (show ((codeV 7).1, (codeV 7).2) = (150, 0) by decide) (code_any w T 7))
  have AP : Hid (∀ w, Calls Tryd.prog 10 #[.agg (arr no), .agg (arr three)] w fun e w' => e = .returned (.int .i64 1) ∧ Below w.heap.size w w') := fun w => at_int (show ((dif no three 11 : Nat) : Int) = 1 by rw [dif_three]; rfl) (apart_any w no three)
  clear T
  go_enter Tryd.func9, Tryd.ntmps9
  go_wp2_with fail
  refine C1.out.mono ?_
  rintro e w1 ⟨rfl, b1⟩
  have B1 := Lib.hid b1
  have T1 := Lib.hid (T0.out.below b1)
  clear b1 C1 T0
  go_wp2_with fail
  refine (at_two (show ((roundV 85 true).1, (roundV 85 true).2) = (0, 0) by decide) (round_any _ T1.out 85 true)).mono ?_
  rintro e w2 ⟨rfl, b2⟩
  have B2 := Lib.hid (B1.out.trans (b2.mono B1.out.size))
  have T2 := Lib.hid (T1.out.below b2)
  clear b2 T1
  go_wp2_with fail
  refine (at_two (show ((roundV 85 false).1, (roundV 85 false).2) = (0, 6) by decide) (round_any _ T2.out 85 false)).mono ?_
  rintro e w3 ⟨rfl, b3⟩
  have B3 := Lib.hid (B2.out.trans (b3.mono B2.out.size))
  have T3 := Lib.hid (T2.out.below b3)
  clear b3 T2
  go_wp2_with fail
  refine (at_two (show ((roundV 86 true).1, (roundV 86 true).2) = (0, 7) by decide) (round_any _ T3.out 86 true)).mono ?_
  rintro e w4 ⟨rfl, b4⟩
  have B4 := Lib.hid (B3.out.trans (b4.mono B3.out.size))
  clear b4 T3
  go_wp2_with fail
  refine (AP.out _).mono ?_
  rintro e w5 ⟨rfl, b5⟩
  have B5 := Lib.hid (B4.out.trans (b5.mono B4.out.size))
  clear b5
  go_wp2
  go_ret
  exact ⟨rfl, B5.out⟩

set_option maxHeartbeats 4000000 in
theorem codes_any (w : World) (T : Tab w) (n b : Int) (odd : Bool) (F G : Nat → Bool) :
    Calls Tryd.prog 3 #[.int .i64 n, .int .u8 b, .bool odd, .agg (arr F), .agg (arr G)] w fun e w' => e = .returned (.bool true) ∧ Below w.heap.size w w' := by
  have hz : (w.alloc (.cells (arr F) 23)).heap.size = w.heap.size + 1 := by simp
  have R := (Row.new w F).alloc (.cells (arr G) 23)
  have R' := Row.new (w.alloc (.cells (arr F) 23)) G
  rw [hz] at R'
  have bb := ((Below.refl w.heap.size w).alloc (Nat.le_refl _) (.cells (arr F) 23)).alloc (by simp) (.cells (arr G) 23)
  have T0 := Lib.hid (T.below bb)
  have RF := Lib.hid R
  have RG := Lib.hid R'
  have B0 := Lib.hid bb
  clear R R' hz bb T
  go_enter Tryd.func3, Tryd.ntmps3
  go_wp2_with fail
  refine (code_any _ T0.out n).mono ?_
  rintro e w1 ⟨rfl, b1⟩
  have B1 := Lib.hid (B0.out.trans (b1.mono B0.out.size))
  have T1 := Lib.hid (T0.out.below b1)
  have F1 := Lib.hid (RF.out.below b1 RF.out.lt)
  have G1 := Lib.hid (RG.out.below b1 RG.out.lt)
  clear b1 T0 RF RG B0
  go_wp2_with fail
  refine (rcode_any _ n).mono ?_
  rintro e w2 ⟨rfl, b2⟩
  have B2 := Lib.hid (B1.out.trans (b2.mono B1.out.size))
  have T2 := Lib.hid (T1.out.below b2)
  have F2 := Lib.hid (F1.out.below b2 F1.out.lt)
  have G2 := Lib.hid (G1.out.below b2 G1.out.lt)
  clear b2 T1 F1 G1 B1
  generalize codeV n = q at *
  obtain ⟨q1, q2⟩ := q
  go_wp2_with fail
  refine (round_any _ T2.out b odd).mono ?_
  rintro e w3 ⟨rfl, b3⟩
  have B3 := Lib.hid (B2.out.trans (b3.mono B2.out.size))
  have T3 := Lib.hid (T2.out.below b3)
  have F3 := Lib.hid (F2.out.below b3 F2.out.lt)
  have G3 := Lib.hid (G2.out.below b3 G2.out.lt)
  clear b3 T2 F2 G2 B2
  go_wp2_with fail
  refine (rround_any _ b odd).mono ?_
  rintro e w4 ⟨rfl, b4⟩
  have B4 := Lib.hid (B3.out.trans (b4.mono B3.out.size))
  have T4 := Lib.hid (T3.out.below b4)
  have F4 := Lib.hid (F3.out.below b4 F3.out.lt)
  have G4 := Lib.hid (G3.out.below b4 G3.out.lt)
  clear b4 T3 F3 G3 B3
  generalize roundV b odd = p at *
  obtain ⟨p1, p2⟩ := p
  go_wp2_with fail
  have g0 := Sd.cell_by (F4.out.cell 0 (by omega))
  have g1 := Sd.cell_by (F4.out.cell 1 (by omega))
  have g2 := Sd.cell_by (F4.out.cell 2 (by omega))
  have g3 := Sd.cell_by (F4.out.cell 3 (by omega))
  have g4 := Sd.cell_by (F4.out.cell 4 (by omega))
  have g5 := Sd.cell_by (F4.out.cell 5 (by omega))
  have g6 := Sd.cell_by (F4.out.cell 6 (by omega))
  have g7 := Sd.cell_by (F4.out.cell 7 (by omega))
  have g8 := Sd.cell_by (F4.out.cell 8 (by omega))
  have g9 := Sd.cell_by (F4.out.cell 9 (by omega))
  have g10 := Sd.cell_by (F4.out.cell 10 (by omega))
  have k0 := Sd.cell_by (G4.out.cell 0 (by omega))
  have k1 := Sd.cell_by (G4.out.cell 1 (by omega))
  have k2 := Sd.cell_by (G4.out.cell 2 (by omega))
  have k3 := Sd.cell_by (G4.out.cell 3 (by omega))
  have k4 := Sd.cell_by (G4.out.cell 4 (by omega))
  have k5 := Sd.cell_by (G4.out.cell 5 (by omega))
  have k6 := Sd.cell_by (G4.out.cell 6 (by omega))
  have k7 := Sd.cell_by (G4.out.cell 7 (by omega))
  have k8 := Sd.cell_by (G4.out.cell 8 (by omega))
  have k9 := Sd.cell_by (G4.out.cell 9 (by omega))
  have k10 := Sd.cell_by (G4.out.cell 10 (by omega))
  refine Sd.start [(true, 0), (false, 1), (false, 2), (false, 3), (false, 4), (false, 5), (false, 6), (false, 7), (false, 8), (false, 9), (false, 10), (false, 11), (false, 12), (false, 13), (false, 14), (false, 15), (false, 16), (false, 17), (false, 18), (false, 19), (false, 20), (false, 21), (false, 22), (false, 23), (false, 25), (false, 26), (true, 24), (true, 27), (false, 28), (false, 29), (false, 30)] (by kernel_rfl) (by kernel_rfl) (by kernel_rfl) ?_
  dsimp only [Sd.picks, List.getElem?_cons_succ, List.getElem?_cons_zero]
  refine Sd.call (by rfl) (fun K hK => ?_)
  go_simp
  refine (awake_any _ (T4.out.below ((Below.refl _ _).drew))).mono ?_
  rintro e w5 ⟨rfl, b5⟩
  have C5 := Lib.hid (Below.trans ((Below.refl w4.heap.size w4).drew) b5)
  refine hK _ _ (Sd.Cl.of C5.out) ?_
  clear hK K b5
  repeat (refine Sd.lit ?_; quiet_step (fail); refine wpQuiet_nil ?_)
  refine Sd.call (by rfl) (fun K hK => ?_)
  go_simp
  refine (apart_any _ F G).mono ?_
  rintro e w6 ⟨rfl, b6⟩
  have C6 := Lib.hid (C5.out.trans (b6.mono C5.out.size))
  refine hK _ _ (Sd.Cl.of C6.out) ?_
  clear hK K b6
  refine Sd.call (by rfl) (fun K hK => ?_)
  go_simp
  refine (rapart_any _ F G).mono ?_
  rintro e w7 ⟨rfl, b7⟩
  have C7 := Lib.hid (C6.out.trans (b7.mono C6.out.size))
  refine hK _ _ (Sd.Cl.of C7.out) ?_
  clear hK K b7
  generalize dif F G 11 = d
  repeat (refine Sd.lit ?_; quiet_step (fail); refine wpQuiet_nil ?_)
  refine Sd.done ?_
  go_wp2
  go_ret
  exact ⟨rfl, B4.out.trans (C7.out.mono B4.out.size)⟩

set_option maxHeartbeats 2000000 in
theorem safe_out (w : World) (T : Tab w) (n m : Int) (h : n < 0 ∨ 7 < n) :
    Calls Tryd.prog 4 #[.int .i64 n, .int .i64 m] w fun e w' => e = .returned (.bool true) ∧ Below w.heap.size w w' := by
  have C0 := Lib.hid (at_two (show ((codeV n).1, (codeV n).2) = (0, 1) by rw [code_out h]) (code_any w T n))
  have T0 := Lib.hid T
  clear T
  rcases h with h | h
  · go_enter Tryd.func4, Tryd.ntmps4
    go_wp2_with fail
    refine C0.out.mono ?_
    rintro e w1 ⟨rfl, b1⟩
    have B1 := Lib.hid b1
    have T1 := Lib.hid (T0.out.below b1)
    clear b1 T0 C0
    go_wp2_with fail
    refine (awake_any _ T1.out).mono ?_
    rintro e w2 ⟨rfl, b2⟩
    have B2 := Lib.hid (B1.out.trans (b2.mono B1.out.size))
    clear b2
    go_wp2
    go_ret
    exact ⟨rfl, B2.out⟩
  · have h' : ¬ n < 0 := by omega
    go_enter Tryd.func4, Tryd.ntmps4
    go_wp2_with fail
    refine C0.out.mono ?_
    rintro e w1 ⟨rfl, b1⟩
    have B1 := Lib.hid b1
    have T1 := Lib.hid (T0.out.below b1)
    clear b1 T0 C0
    go_wp2_with fail
    refine (awake_any _ T1.out).mono ?_
    rintro e w2 ⟨rfl, b2⟩
    have B2 := Lib.hid (B1.out.trans (b2.mono B1.out.size))
    clear b2
    go_wp2
    go_ret
    exact ⟨rfl, B2.out⟩

set_option maxHeartbeats 4000000 in
theorem safe_in (w : World) (T : Tab w) (n : Nat) (hn : n < 8) (m : Int) :
    Calls Tryd.prog 4 #[.int .i64 n, .int .i64 m] w fun e w' => e = .returned (.bool true) ∧ Below w.heap.size w w' := by
  have C0 := Lib.hid (at_two (show ((codeV n).1, (codeV n).2) = (cd n, 0) by rw [code_in rfl hn]) (code_any w T n))
  have SF : Hid (∀ G, bad G = false → (roundV (tb G) (tp G)).2 = 0 → ∃ m : Nat, (roundV (tb G) (tp G)).1 = m ∧ (m = n ∧ dif (frm (cd n) true) G 11 = 0 ∨ m ≠ n ∧ 3 < dif (frm (cd n) true) G 11)) := fun G hb ho => safe hn hb ho
  have T0 := Lib.hid T
  have HC := cd_byte n
  clear T
  go_enter Tryd.func4, Tryd.ntmps4
  go_wp2_with fail
  refine C0.out.mono ?_
  rintro e w1 ⟨rfl, b1⟩
  have B1 := Lib.hid b1
  have T1 := Lib.hid (T0.out.below b1)
  clear b1 T0 C0
  go_wp2_with fail
  refine (put_any _ (cd n) true HC.1 HC.2).mono ?_
  rintro e w2 ⟨rfl, b2⟩
  have z2 := b2.size
  generalize frm (cd n) true = F at *
  have b2' := b2.alloc b2.size (.cells (arr F) 23)
  have B2 := Lib.hid (B1.out.trans (b2'.mono B1.out.size))
  have T2 := Lib.hid (T1.out.below b2')
  have F2 := Lib.hid (Row.new w2 F)
  clear b2 b2' T1 B1
  go_wp2_with (first
    | ((with_reducible refine store_new (o := ⟨none, _, _, _, _, _⟩) rfl _ _ rfl F ?_ ?_ ?_); (exact rfl); (exact rfl))
    | ((with_reducible refine load_frame (o := ⟨some 33, _, _, _, _, _⟩) rfl _ rfl _ _ ?_ F2.out ?_); (exact rfl)))
  refine (turn_any _ F m).mono ?_
  rintro e w3 ⟨rfl, b3⟩
  generalize turn F m 11 = G at *
  have b3' := b3.alloc b3.size (.cells (arr G) 23)
  have B3 := Lib.hid (B2.out.trans (b3'.mono B2.out.size))
  have T3 := Lib.hid (T2.out.below b3')
  have F3 := Lib.hid (F2.out.below b3' F2.out.lt)
  have G3 := Lib.hid (Row.new w3 G)
  clear b3 b3' T2 B2 F2
  go_wp2_with (first
    | ((with_reducible refine store_new (o := ⟨none, _, _, _, _, _⟩) rfl _ _ rfl G ?_ ?_ ?_); (exact rfl); (exact rfl))
    | ((with_reducible refine load_frame (o := ⟨some 36, _, _, _, _, _⟩) rfl _ rfl _ _ ?_ F3.out ?_); (exact rfl))
    | ((with_reducible refine load_frame (o := ⟨some 37, _, _, _, _, _⟩) rfl _ rfl _ _ ?_ G3.out ?_); (exact rfl)))
  refine (apart_any _ F G).mono ?_
  rintro e w4 ⟨rfl, b4⟩
  have B4 := Lib.hid (B3.out.trans (b4.mono B3.out.size))
  have T4 := Lib.hid (T3.out.below b4)
  have G4 := Lib.hid (G3.out.below b4 G3.out.lt)
  have DL := dif_le F G 11
  have S0 := Lib.hid (SF.out G)
  clear SF
  generalize dif F G 11 = d at *
  clear b4 T3 B3 F3 G3
  cases hb : bad G with
  | true =>
    have TA := Lib.hid (at_three rfl rfl (show te G = 2 by unfold te; rw [hb]; rfl) (take_any w4 G))
    clear hb S0
    go_wp2_with ((with_reducible refine load_frame (o := ⟨some 40, _, _, _, _, _⟩) rfl _ rfl _ _ ?_ G4.out ?_); (exact rfl))
    refine TA.out.mono ?_
    rintro e w5 ⟨rfl, b5⟩
    have B5 := Lib.hid (B4.out.trans (b5.mono B4.out.size))
    have T5 := Lib.hid (T4.out.below b5)
    clear b5 T4 B4 G4 TA
    go_wp2_with fail
    refine (awake_any _ T5.out).mono ?_
    rintro e w6 ⟨rfl, b6⟩
    have B6 := Lib.hid (B5.out.trans (b6.mono B5.out.size))
    clear b6
    go_wp2
    go_ret
    exact ⟨rfl, B6.out⟩
  | false =>
    have TA := Lib.hid (at_three rfl rfl (show te G = 0 by unfold te; rw [hb]; rfl) (take_any w4 G))
    have SG := Lib.hid (S0.out hb)
    clear hb S0
    go_wp2_with ((with_reducible refine load_frame (o := ⟨some 40, _, _, _, _, _⟩) rfl _ rfl _ _ ?_ G4.out ?_); (exact rfl))
    refine TA.out.mono ?_
    rintro e w5 ⟨rfl, b5⟩
    have B5 := Lib.hid (B4.out.trans (b5.mono B4.out.size))
    have T5 := Lib.hid (T4.out.below b5)
    clear b5 T4 B4 G4 TA
    go_wp2_with fail
    refine (round_any _ T5.out (tb G) (tp G)).mono ?_
    rintro e w6 ⟨rfl, b6⟩
    have B6 := Lib.hid (B5.out.trans (b6.mono B5.out.size))
    have T6 := Lib.hid (T5.out.below b6)
    clear b6 T5 B5
    generalize roundV (tb G) (tp G) = q at *
    obtain ⟨q1, q2⟩ := q
    by_cases hq : q2 = 0
    · subst hq
      obtain ⟨m', hm, hs⟩ := SG.out rfl
      simp only at hm
      subst hm
      rcases hs with ⟨rfl, hd⟩ | ⟨hne, hd⟩
      · clear SG
        subst hd
        go_wp2_with fail
        refine (awake_any _ T6.out).mono ?_
        rintro e w7 ⟨rfl, b7⟩
        have B7 := Lib.hid (B6.out.trans (b7.mono B6.out.size))
        clear b7
        go_wp2
        go_ret
        exact ⟨rfl, B7.out⟩
      · clear SG
        go_wp2_with fail
        refine (awake_any _ T6.out).mono ?_
        rintro e w7 ⟨rfl, b7⟩
        have B7 := Lib.hid (B6.out.trans (b7.mono B6.out.size))
        clear b7
        go_wp2
        go_ret
        exact ⟨rfl, B7.out⟩
    · clear SG
      go_wp2_with fail
      refine (awake_any _ T6.out).mono ?_
      rintro e w7 ⟨rfl, b7⟩
      have B7 := Lib.hid (B6.out.trans (b7.mono B6.out.size))
      clear b7
      go_wp2
      go_ret
      exact ⟨rfl, B7.out⟩

theorem safe_any (w : World) (T : Tab w) (n m : Int) : Calls Tryd.prog 4 #[.int .i64 n, .int .i64 m] w fun e w' => e = .returned (.bool true) ∧ Below w.heap.size w w' := by
  by_cases h : n < 0 ∨ 7 < n
  · exact safe_out w T n m h
  · obtain ⟨k, rfl⟩ : ∃ k : Nat, n = k := ⟨n.toNat, by omega⟩
    exact safe_in w T k (by omega) m

end Go.Proofs.YtejibonnjbhcjaaDoor.Fi
