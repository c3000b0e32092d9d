/- The two statements of layer 5, walked: each returns true and writes nothing that was there. -/
import Derived.Test.YtcphjeibanedhaaSaAwake
import Derived.Test.YtcphjeibanedhaaSd
namespace Go.Proofs.Ytcphjeibanedhaa.Sa
open Go.RowKit Go.Proofs.Ytcphjeibanedhaa.Sp
open Go.Proofs.Ytcphjeibanedhaa.Tk (GoodP Glo goodB goodB_true goodB_yes rgood_any global_any)
open Go.Proofs.Ytcphjeibanedhaa.Wi (PlainOf Made Few lowB Near)
open Go.Proofs.Ytcphjeibanedhaa.Se (lows lows_mem spans_any Glo_in)
open Go.Proofs.Ytcphjeibanedhaa.Ua (arr Row upd eq_same at_frame load_frame store_new)

theorem at_bool {P : Program} {f : Nat} {args : Array Value} {w : World} {B : Nat} {a b : Bool} (e : a = b) (c : Calls P f args w fun e w' => e = .returned (.bool a) ∧ Below B w w') : Calls P f args w fun e w' => e = .returned (.bool b) ∧ Below B w w' := by rw [← e]; exact c

set_option maxHeartbeats 400000 in
theorem hears_bad (w : World) (v u : Value) (n : Nat) (A R : Nat → Int) (S : Tk.Steps w u n A R) (g : goodB n A R = false) (f t : Int) :
    Calls Try.prog 3 #[v, u, .int .u32 f, .int .u32 t] w fun e w' => e = .returned (.bool true) ∧ Below w.heap.size w w' := by
  have S0 := Lib.hid S
  have G := Lib.hid g
  clear S g
  go_enter Try.func3, Try.ntmps3
  go_wp2_with fail
  refine (at_bool G.out (rgood_any _ _ _ _ _ S0.out)).mono ?_
  rintro e w1 ⟨rfl, b1⟩
  have B1 := Lib.hid b1
  clear b1
  go_wp2_with fail
  refine (awake_any _).mono ?_
  rintro e w2 ⟨rfl, b2⟩
  have B2 := Lib.hid (B1.out.trans (b2.mono B1.out.size))
  clear b2
  go_wp2
  go_ret
  exact ⟨rfl, B2.out⟩

theorem hear_one {w : World} {l x : List S2} {A R : Nat → Int} {n : Nat} {f t : Int} (hx : PlainOf l x) {e : Ending} {w' : World} (p : HearPost w l A R n f t e w') :
    e = .returned (.tuple #[.int .u8 (HearV x l A R n f t).1, .bool (HearV x l A R n f t).2.1, .int .i64 (HearV x l A R n f t).2.2]) ∧ Below w.heap.size w w' := by
  obtain ⟨y, hy, he, hb⟩ := p
  rw [hy.one hx] at he
  exact ⟨he, hb⟩

set_option maxHeartbeats 1000000 in
theorem hears_good (w : World) (v u : Value) (l0 : List S2) (P : Sp w v l0) (n : Nat) (A R : Nat → Int) (S : Tk.Steps w u n A R) (g : GoodP n A R) (f t : Int) (f0 : 0 ≤ f) (t0 : 0 ≤ t) :
    Calls Try.prog 3 #[v, u, .int .u32 f, .int .u32 t] w fun e w' => e = .returned (.bool true) ∧ Below w.heap.size w w' := by
  have P0 := Lib.hid P
  have S0 := Lib.hid S
  have G := Lib.hid g
  clear P S g
  go_enter Try.func3, Try.ntmps3
  go_wp2_with fail
  refine (at_bool (goodB_yes G.out) (rgood_any _ _ _ _ _ S0.out)).mono ?_
  rintro e w1 ⟨rfl, b1⟩
  have B1 := Lib.hid b1
  have S1 := Lib.hid (S0.out.below b1)
  have P1 := Lib.hid (P0.out.below b1)
  clear b1 S0 P0
  go_wp2_with fail
  refine (few_any _ _ _ P1.out).mono ?_
  rintro e w2 ⟨v2, l, rfl, o2, ⟨hl, hn⟩, b2⟩
  have B2 := Lib.hid (B1.out.trans (b2.mono B1.out.size))
  have S2 := Lib.hid (S1.out.below b2)
  have P2 := Lib.hid o2.sp
  have N := Lib.hid hn
  clear o2 hn b2 S1 P1
  go_wp2_with fail
  refine (hear_any _ _ _ l P2.out (by omega) n A R S2.out G.out (f % 1073741824) (t % 1073741824)).mono ?_
  rintro e w3 ⟨x, hx, rfl, b3⟩
  have PX := Lib.hid hx
  have B3 := Lib.hid (B2.out.trans (b3.mono B2.out.size))
  have S3 := Lib.hid (S2.out.below b3)
  have P3 := Lib.hid (P2.out.below b3)
  clear hx b3 S2 P2
  go_wp2_with fail
  refine (rhear_any _ _ _ l P3.out N.out n A R S3.out G.out (f % 1073741824) (t % 1073741824)).mono ?_
  intro e w4 hp
  obtain ⟨rfl, b4⟩ := hear_one PX.out hp
  have B4 := Lib.hid (B3.out.trans (b4.mono B3.out.size))
  have S4 := Lib.hid (S3.out.below b4)
  have P4 := Lib.hid (P3.out.below b4)
  clear hp b4 S3 P3
  generalize HearV x l A R n (f % 1073741824) (t % 1073741824) = q at *
  obtain ⟨q1, q2, q3⟩ := q
  go_wp2_with fail
  refine (awake_any _).mono ?_
  rintro e w5 ⟨rfl, b5⟩
  have B5 := Lib.hid (B4.out.trans (b5.mono B4.out.size))
  have S5 := Lib.hid (S4.out.below b5)
  have P5 := Lib.hid (P4.out.below b5)
  clear b5 S4 P4
  go_wp2_with fail
  refine (bits_any _ _ _ l P5.out n A R S5.out G.out (f % 1073741824)).mono ?_
  rintro e w6 ⟨rfl, b6⟩
  have B6 := Lib.hid (B5.out.trans (b6.mono B5.out.size))
  have S6 := Lib.hid (S5.out.below b6)
  have P6 := Lib.hid (P5.out.below b6)
  clear b6 S5 P5
  have RB := Lib.hid (rbits_any _ _ _ l P6.out n A R S6.out G.out (f % 1073741824))
  generalize heard (lowB l) (Glo A R n) (Tk.Loc A R n (f % 1073741824)) = F at *
  go_wp2_with fail
  refine RB.out.mono ?_
  rintro e w7 ⟨rfl, b7⟩
  have B7 := Lib.hid (B6.out.trans (b7.mono B6.out.size))
  have es : ∀ w : World, (Op.equalIn 10000 34 (.agg (arr F)) (.agg (arr F))).run Try.prog w = .ok true w := eq_same F
  clear b7 RB
  go_wp2
  go_ret
  exact ⟨Ua.ret_bool (by cases q2 <;> simp), B7.out⟩

theorem hears_any (w : World) (v u : Value) (l0 : List S2) (P : Sp w v l0) (n : Nat) (A R : Nat → Int) (S : Tk.Steps w u n A R) (f t : Int) (f0 : 0 ≤ f) (t0 : 0 ≤ t) :
    Calls Try.prog 3 #[v, u, .int .u32 f, .int .u32 t] w fun e w' => e = .returned (.bool true) ∧ Below w.heap.size w w' := by
  cases g : goodB n A R with
  | true => exact hears_good w v u l0 P n A R S (goodB_true.1 g) f t f0 t0
  | false => exact hears_bad w v u n A R S g f t

set_option maxHeartbeats 2000000 in
theorem true_any (w : World) (u v : Value) (n n' : Nat) (A R A' R' : Nat → Int) (S : Tk.Steps w u n A R) (S' : Tk.Steps w v n' A' R') (t : Int) (t0 : 0 ≤ t) (t1 : t < 4294967296) (F : Nat → Bool) :
    Calls Try.prog 4 #[u, v, .int .u32 t, .agg (arr F)] w fun e w' => e = .returned (.bool true) ∧ Below w.heap.size w w' := by
  have R0 := Lib.hid (Row.new w F)
  have B0 := Lib.hid ((Below.refl w.heap.size w).alloc (Nat.le_refl _) (.cells (arr F) 34))
  have S0 := Lib.hid (S.below B0.out)
  have S0' := Lib.hid (S'.below B0.out)
  clear S S'
  go_enter Try.func4, Try.ntmps4
  go_wp2_with fail
  refine (calm_any _ _ _ _ _ S0.out).mono ?_
  rintro e w1 ⟨c1, rfl, g1, b1⟩
  have B1 := Lib.hid (B0.out.trans (b1.mono B0.out.size))
  have S1 := Lib.hid (S0.out.below b1)
  have S1' := Lib.hid (S0'.out.below b1)
  have R1 := Lib.hid (R0.out.below b1 R0.out.lt)
  have H1 := Lib.hid g1
  clear b1 S0 S0' R0 g1
  cases c1 with
  | false =>
    go_wp2_with fail
    refine (awake_any _).mono ?_
    rintro e w2 ⟨rfl, b2⟩
    have B2 := Lib.hid (B1.out.trans (b2.mono B1.out.size))
    clear b2
    go_wp2
    go_ret
    exact ⟨rfl, B2.out⟩
  | true =>
    have G := Lib.hid (H1.out rfl)
    clear H1
    go_wp2_with fail
    refine (calm_any _ _ _ _ _ S1'.out).mono ?_
    rintro e w2 ⟨c2, rfl, g2, b2⟩
    have B2 := Lib.hid (B1.out.trans (b2.mono B1.out.size))
    have S2 := Lib.hid (S1.out.below b2)
    have S2' := Lib.hid (S1'.out.below b2)
    have R2 := Lib.hid (R1.out.below b2 R1.out.lt)
    have H2 := Lib.hid g2
    clear b2 S1 S1' R1 g2
    cases c2 with
    | false =>
      go_wp2_with fail
      refine (awake_any _).mono ?_
      rintro e w3 ⟨rfl, b3⟩
      have B3 := Lib.hid (B2.out.trans (b3.mono B2.out.size))
      clear b3
      go_wp2
      go_ret
      exact ⟨rfl, B3.out⟩
    | true =>
      have G' := Lib.hid (H2.out rfl)
      clear H2
      have M0 : 0 ≤ t % 1073741824 := by omega
      have M1 : t % 1073741824 ≤ 1073741824 := by omega
      have z2 := B2.out.size
      have R3 := Row.new w2 (upd F 0 false)
      have f3 := (Row.new w2 F).frozen 0
      have bb : Below w2.heap.size w2 (w2.alloc (.cells (arr (upd F 0 false)) 34)) := (Below.refl _ _).alloc (Nat.le_refl _) _
      have B3 := Lib.hid (B2.out.trans (bb.mono z2))
      have S3 := Lib.hid (S2.out.below bb)
      have S3' := Lib.hid (S2'.out.below bb)
      have RR := Lib.hid R3
      clear bb R3 S2 S2'
      go_wp2_with (first
        | ((with_reducible refine load_frame (o := ⟨some 23, _, _, _, _, _⟩) rfl _ rfl _ _ ?_ R2.out ?_); (exact rfl))
        | ((with_reducible refine store_new (o := ⟨none, _, _, _, _, _⟩) rfl _ _ rfl F ?_ ?_ ?_); (exact rfl); (exact rfl)))
      clear f3 R2
      rw [Ua.arr_set F 0 (by omega) false]
      generalize hK : upd F 0 false = K at *
      generalize w2.alloc (.cells (arr K) 34) = W at *
      generalize w2.heap.size = b at *
      have K0 : Hid (K 0 = false) := by rw [← hK]; exact rfl
      clear hK
      have es : ∀ w : World, (Op.equalIn 10000 34 (.agg (arr K)) (.agg #[.bool (K 0), .bool (K 1), .bool (K 2), .bool (K 3), .bool (K 4), .bool (K 5), .bool (K 6), .bool (K 7), .bool (K 8), .bool (K 9), .bool (K 10)])).run Try.prog w = .ok true w := eq_same K
      have g0 := Sd.cell_by (RR.out.cell 0 (by omega))
      have g1 := Sd.cell_by (RR.out.cell 1 (by omega))
      have g2 := Sd.cell_by (RR.out.cell 2 (by omega))
      have g3 := Sd.cell_by (RR.out.cell 3 (by omega))
      have g4 := Sd.cell_by (RR.out.cell 4 (by omega))
      have g5 := Sd.cell_by (RR.out.cell 5 (by omega))
      have g6 := Sd.cell_by (RR.out.cell 6 (by omega))
      have g7 := Sd.cell_by (RR.out.cell 7 (by omega))
      have g8 := Sd.cell_by (RR.out.cell 8 (by omega))
      have g9 := Sd.cell_by (RR.out.cell 9 (by omega))
      have g10 := Sd.cell_by (RR.out.cell 10 (by omega))
      refine Sd.start [(true, 0), (false, 1), (false, 2), (false, 3), (false, 4), (false, 6), (false, 7), (false, 8), (false, 11), (true, 5), (true, 9), (true, 10), (false, 12), (false, 13), (false, 14)] (by kernel_rfl) (by kernel_rfl) (by kernel_rfl) ?_
      dsimp only [Sd.picks, List.getElem?_cons_succ, List.getElem?_cons_zero]
      refine Sd.call (by rfl) (fun K' hK => ?_)
      go_simp
      refine (awake_any _).mono ?_
      rintro e w4 ⟨rfl, b4⟩
      have C4 := Lib.hid (Below.trans ((Below.refl W.heap.size W).drew) b4)
      refine hK _ _ (Sd.Cl.of C4.out) ?_
      clear hK K' b4
      repeat (refine Sd.lit ?_; quiet_step (fail); refine wpQuiet_nil ?_)
      refine Sd.call (by rfl) (fun K' hK => ?_)
      go_simp
      refine (spans_any _ u n A R (S3.out.below C4.out) G.out.good (t % 1073741824) M0 (by omega) K).mono ?_
      rintro e w5 ⟨v1, l, rfl, o5, p5, b5⟩
      have C5 := Lib.hid (C4.out.trans (b5.mono C4.out.size))
      have P5 := Lib.hid p5
      have Q5 := Lib.hid o5.sp
      refine hK _ _ (Sd.Cl.of C5.out) ?_
      clear hK K' b5 o5 p5
      refine Sd.call (by rfl) (fun K' hK => ?_)
      go_simp
      refine (global_any _ u n A R (t % 1073741824) (S3.out.below C5.out) G.out.good).mono ?_
      rintro e w6 ⟨rfl, b6⟩
      have C6 := Lib.hid (C5.out.trans (b6.mono C5.out.size))
      have Q6 := Lib.hid (Q5.out.below b6)
      refine hK _ _ (Sd.Cl.of C6.out) ?_
      clear hK K' b6 Q5
      have HT := Lib.hid (fun i hi => heard_true G.out G'.out M0 M1 P5.out i hi)
      refine Sd.call (by rfl) (fun K' hK => ?_)
      go_simp
      refine (at_frame HT.out (bits_any _ v1 v l Q6.out n' A' R' (S3'.out.below C6.out) G'.out.good (Glo A R n (t % 1073741824)))).mono ?_
      rintro e w7 ⟨rfl, b7⟩
      have C7 := Lib.hid (C6.out.trans (b7.mono C6.out.size))
      refine hK _ _ (Sd.Cl.of C7.out) ?_
      clear hK K' b7
      repeat (refine Sd.lit ?_; quiet_step (fail); refine wpQuiet_nil ?_)
      refine Sd.done ?_
      go_wp2
      go_ret
      exact ⟨rfl, B3.out.trans (C7.out.mono B3.out.size)⟩

end Go.Proofs.Ytcphjeibanedhaa.Sa
