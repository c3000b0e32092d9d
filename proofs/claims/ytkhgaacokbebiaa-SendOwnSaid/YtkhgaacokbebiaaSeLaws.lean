/- The two statements of layer 4, walked: each returns true and writes nothing that was there. -/
import Derived.Test.YtkhgaacokbebiaaSeAwake
import Derived.Test.YtkhgaacokbebiaaTkRGood
import Derived.Test.YtkhgaacokbebiaaWiLaws
import Derived.Test.YtkhgaacokbebiaaSd
import Derived.Test.YtkhgaacokbebiaaUaAwake
namespace Go.Proofs.Ytkhgaacokbebiaa.Se
open Go.RowKit Go.Proofs.Ytkhgaacokbebiaa.Tk Go.Proofs.Ytkhgaacokbebiaa.Sp
open Go.Proofs.Ytkhgaacokbebiaa.Wi (PlainOf Plain Made Low sameB same_any same_of)
open Go.Proofs.Ytkhgaacokbebiaa.Ua (arr Row)

theorem at_bool {P : Program} {f : Nat} {args : Array Value} {w : World} {B : Nat} {a b : Bool} (e : a = b) (c : Calls P f args w fun e w' => e = .returned (.bool a) ∧ Below B w w') : Calls P f args w fun e w' => e = .returned (.bool b) ∧ Below B w w' := by rw [← e]; exact c

set_option maxHeartbeats 400000 in
theorem sspans_bad (w : World) (v : Value) (n : Nat) (A R : Nat → Int) (S : Tk.Steps w v n A R) (g : goodB n A R = false) (t : Int) (F : Nat → Bool) (k : Int) :
    Calls Try.prog 3 #[v, .int .u32 t, .agg (arr F), .int .u16 k] w fun e w' => e = .returned (.bool true) ∧ Below w.heap.size w w' := by
  have B0 := Lib.hid ((Below.refl w.heap.size w).alloc (Nat.le_refl _) (.cells (arr F) 25))
  have S0 := Lib.hid (S.below B0.out)
  have G := Lib.hid g
  clear S g
  go_enter Try.func3, Try.ntmps3
  go_wp2_with fail
  refine (at_bool G.out (rgood_any _ _ _ _ _ S0.out)).mono ?_
  rintro e w1 ⟨rfl, b1⟩
  have B1 := Lib.hid (B0.out.trans (b1.mono B0.out.size))
  clear b1
  go_wp2_with fail
  refine (awake_any _).mono ?_
  rintro e w2 ⟨rfl, b2⟩
  have B2 := Lib.hid (B1.out.trans (b2.mono B1.out.size))
  clear b2
  go_wp2
  go_ret
  exact ⟨rfl, B2.out⟩

set_option maxHeartbeats 4000000 in
theorem sspans_good (w : World) (v : Value) (n : Nat) (A R : Nat → Int) (S : Tk.Steps w v n A R) (g : GoodP n A R) (t : Int) (t0 : 0 ≤ t) (t1 : t < 4294967296) (F : Nat → Bool) (k : Int) (k0 : 0 ≤ k) (k1 : k < 65536) :
    Calls Try.prog 3 #[v, .int .u32 t, .agg (arr F), .int .u16 k] w fun e w' => e = .returned (.bool true) ∧ Below w.heap.size w w' := by
  have R0 := Lib.hid (Row.new w F)
  have B0 := Lib.hid ((Below.refl w.heap.size w).alloc (Nat.le_refl _) (.cells (arr F) 25))
  have S0 := Lib.hid (S.below B0.out)
  have G := Lib.hid g
  clear S g
  go_enter Try.func3, Try.ntmps3
  go_wp2_with fail
  refine (at_bool (goodB_yes G.out) (rgood_any _ _ _ _ _ S0.out)).mono ?_
  rintro e w1 ⟨rfl, b1⟩
  have B1 := Lib.hid (B0.out.trans (b1.mono B0.out.size))
  have S1 := Lib.hid (S0.out.below b1)
  have R1 := Lib.hid (R0.out.below b1 R0.out.lt)
  clear b1 S0 R0
  go_wp2_with fail
  refine (window_any _ _ _ _ _ S1.out G.out k k0 (by omega)).mono ?_
  rintro e w2 ⟨rfl, b2⟩
  have B2 := Lib.hid (B1.out.trans (b2.mono B1.out.size))
  have S2 := Lib.hid (S1.out.below b2)
  have R2 := Lib.hid (R1.out.below b2 R1.out.lt)
  clear b2 S1 R1
  go_wp2
  have M0 : 0 ≤ t % 1073741824 := by omega
  have M1 : t % 1073741824 ≤ 2147483648 := by omega
  have W0 : IntKind.i64.wrap k = k := IntWalk.i64_in _ (by omega)
  have W1 : IntKind.i64.wrap (224 * k) = 224 * k := IntWalk.i64_in _ (by omega)
  have W2 : IntKind.i64.wrap (224 * k + 224) = 224 * k + 224 := IntWalk.i64_in _ (by omega)
  have g0 := Sd.cell_by (R2.out.cell 0 (by omega))
  have g1 := Sd.cell_by (R2.out.cell 1 (by omega))
  have g2 := Sd.cell_by (R2.out.cell 2 (by omega))
  have g3 := Sd.cell_by (R2.out.cell 3 (by omega))
  have g4 := Sd.cell_by (R2.out.cell 4 (by omega))
  have g5 := Sd.cell_by (R2.out.cell 5 (by omega))
  have g6 := Sd.cell_by (R2.out.cell 6 (by omega))
  have g7 := Sd.cell_by (R2.out.cell 7 (by omega))
  have g8 := Sd.cell_by (R2.out.cell 8 (by omega))
  have g9 := Sd.cell_by (R2.out.cell 9 (by omega))
  have g10 := Sd.cell_by (R2.out.cell 10 (by omega))
  refine Sd.start [(true, 0), (false, 1), (false, 2), (false, 3), (false, 4), (false, 6), (false, 7), (false, 8), (true, 5), (true, 9), (true, 10), (false, 11), (false, 12), (false, 13), (false, 14), (false, 15), (false, 16), (false, 17), (true, 18), (false, 19), (false, 20), (false, 21), (false, 22), (false, 23), (false, 24), (false, 25), (false, 26), (false, 27), (true, 28), (false, 29), (false, 30), (false, 31)] (by kernel_rfl) (by kernel_rfl) (by kernel_rfl) ?_
  dsimp only [Sd.picks, List.getElem?_cons_succ, List.getElem?_cons_zero]
  refine Sd.call (by rfl) (fun K hK => ?_)
  go_simp
  refine (awake_any _).mono ?_
  rintro e w3 ⟨rfl, b3⟩
  have C3 := Lib.hid (Below.trans ((Below.refl w2.heap.size w2).drew) b3)
  refine hK _ _ (Sd.Cl.of C3.out) ?_
  clear hK K b3
  repeat (refine Sd.lit ?_; quiet_step (fail); refine wpQuiet_nil ?_)
  refine Sd.call (by rfl) (fun K hK => ?_)
  go_simp
  refine (spans_any _ v n A R (S2.out.below C3.out) G.out _ M0 M1 F).mono ?_
  rintro e w4 ⟨v1, l1, rfl, o1, p1, b4⟩
  have C4 := Lib.hid (C3.out.trans (b4.mono C3.out.size))
  have O1 := Lib.hid o1
  have P1 := Lib.hid p1
  refine hK _ _ (Sd.Cl.of C4.out) ?_
  clear hK K b4 o1 p1
  refine Sd.call (by rfl) (fun K hK => ?_)
  go_simp
  refine (rspans_any _ v n A R (S2.out.below C4.out) G.out _ M0 M1 F).mono ?_
  rintro e w5 ⟨v2, l2, rfl, o2, p2, b5⟩
  have C5 := Lib.hid (C4.out.trans (b5.mono C4.out.size))
  have S15 := Lib.hid (O1.out.keep b5).sp
  have S25 := Lib.hid o2.sp
  have SO := Lib.hid (same_of P1.out p2)
  refine hK _ _ (Sd.Cl.of C5.out) ?_
  clear hK K b5 o2 p2
  refine Sd.call (by rfl) (fun K hK => ?_)
  go_simp
  refine (at_bool SO.out (same_any _ _ _ _ _ S15.out S25.out)).mono ?_
  rintro e w6 ⟨rfl, b6⟩
  have C6 := Lib.hid (C5.out.trans (b6.mono C5.out.size))
  refine hK _ _ (Sd.Cl.of C6.out) ?_
  clear hK K b6
  repeat (refine Sd.lit ?_; quiet_step (fail); refine wpQuiet_nil ?_)
  refine Sd.call (by rfl) (fun K hK => ?_)
  go_simp
  refine (rglobal_any _ v n A R _ (S2.out.below C6.out) G.out).mono ?_
  rintro e w7 ⟨rfl, b7⟩
  have C7 := Lib.hid (C6.out.trans (b7.mono C6.out.size))
  refine hK _ _ (Sd.Cl.of C7.out) ?_
  clear hK K b7
  repeat (refine Sd.lit ?_; quiet_step (fail); refine wpQuiet_nil ?_)
  refine Sd.call (by rfl) (fun K hK => ?_)
  go_simp
  refine (rglobal_any _ v n A R _ (S2.out.below C7.out) G.out).mono ?_
  rintro e w8 ⟨rfl, b8⟩
  have C8 := Lib.hid (C7.out.trans (b8.mono C7.out.size))
  refine hK _ _ (Sd.Cl.of C8.out) ?_
  clear hK K b8
  repeat (refine Sd.lit ?_; quiet_step (fail); refine wpQuiet_nil ?_)
  refine Sd.done ?_
  go_wp2
  go_ret
  exact ⟨rfl, B2.out.trans (C8.out.mono B2.out.size)⟩

set_option maxHeartbeats 400000 in
theorem sown_bad (w : World) (v : Value) (n : Nat) (A R : Nat → Int) (S : Tk.Steps w v n A R) (g : goodB n A R = false) (F : Nat → Bool) (k t : Int) :
    Calls Try.prog 4 #[v, .agg (arr F), .int .u8 k, .int .u8 t] w fun e w' => e = .returned (.bool true) ∧ Below w.heap.size w w' := by
  have B0 := Lib.hid ((Below.refl w.heap.size w).alloc (Nat.le_refl _) (.cells (arr F) 25))
  have S0 := Lib.hid (S.below B0.out)
  have G := Lib.hid g
  clear S g
  go_enter Try.func4, Try.ntmps4
  go_wp2_with fail
  refine (at_bool G.out (rgood_any _ _ _ _ _ S0.out)).mono ?_
  rintro e w1 ⟨rfl, b1⟩
  have B1 := Lib.hid (B0.out.trans (b1.mono B0.out.size))
  clear b1
  go_wp2_with fail
  refine (awake_any _).mono ?_
  rintro e w2 ⟨rfl, b2⟩
  have B2 := Lib.hid (B1.out.trans (b2.mono B1.out.size))
  clear b2
  go_wp2
  go_ret
  exact ⟨rfl, B2.out⟩

theorem at_win {P : Program} {f : Nat} {args : Array Value} {w : World} {B : Nat} {a b c d : Int} (e1 : a = c) (e2 : b = d) (h : Calls P f args w fun e w' => e = .returned (.tuple #[.int .i64 a, .int .i64 b]) ∧ Below B w w') : Calls P f args w fun e w' => e = .returned (.tuple #[.int .i64 c, .int .i64 d]) ∧ Below B w w' := by rw [← e1, ← e2]; exact h

def yes (_ : Nat) : Bool := true
set_option maxHeartbeats 4000000 in
theorem sown_good (w : World) (v : Value) (n : Nat) (A R : Nat → Int) (S : Tk.Steps w v n A R) (g : GoodP n A R) (F : Nat → Bool) (k t : Int) (k0 : 0 ≤ k) (k1 : k ≤ 255) (t0 : 0 ≤ t) (t1 : t ≤ 255) :
    Calls Try.prog 4 #[v, .agg (arr F), .int .u8 k, .int .u8 t] w fun e w' => e = .returned (.bool true) ∧ Below w.heap.size w w' := by
  have es : ∀ w : World, (Op.equalIn 10000 25 (.agg #[.bool true, .bool true, .bool true, .bool true, .bool true, .bool true, .bool true, .bool true, .bool true, .bool true, .bool true]) (.agg #[.bool true, .bool true, .bool true, .bool true, .bool true, .bool true, .bool true, .bool true, .bool true, .bool true, .bool true])).run Try.prog w = .ok true w := fun w => Ua.eq_same yes w
  have R0 := Lib.hid (Row.new w F)
  have B0 := Lib.hid ((Below.refl w.heap.size w).alloc (Nat.le_refl _) (.cells (arr F) 25))
  have S0 := Lib.hid (S.below B0.out)
  have G := Lib.hid g
  clear S g
  have xy := Glo_lt G.out (a := 224 * k) (b := 224 * k + 224) (by omega) (by omega) (by omega)
  have yz := Glo_lt G.out (a := 224 * k + 224) (b := 224 * k + 224 + 224) (by omega) (by omega) (by omega)
  have E1 := Lib.hid (show Glo A R n (224 * (k + 1)) = Glo A R n (224 * k + 224) by rw [show 224 * (k + 1) = 224 * k + 224 by omega])
  have E2 := Lib.hid (show Glo A R n (224 * (k + 1) + 224) = Glo A R n (224 * k + 224 + 224) by rw [show 224 * (k + 1) = 224 * k + 224 by omega])
  go_enter Try.func4, Try.ntmps4
  go_wp2_with fail
  refine (at_bool (goodB_yes G.out) (rgood_any _ _ _ _ _ S0.out)).mono ?_
  rintro e w1 ⟨rfl, b1⟩
  have B1 := Lib.hid (B0.out.trans (b1.mono B0.out.size))
  have S1 := Lib.hid (S0.out.below b1)
  have R1 := Lib.hid (R0.out.below b1 R0.out.lt)
  clear b1 S0 R0
  go_wp2_with fail
  refine (window_any _ _ _ _ _ S1.out G.out k k0 (by omega)).mono ?_
  rintro e w2 ⟨rfl, b2⟩
  have B2 := Lib.hid (B1.out.trans (b2.mono B1.out.size))
  have S2 := Lib.hid (S1.out.below b2)
  have R2 := Lib.hid (R1.out.below b2 R1.out.lt)
  clear b2 S1 R1
  go_wp2_with fail
  refine (at_win E1.out E2.out (window_any _ _ _ _ _ S2.out G.out (k + 1) (by omega) (by omega))).mono ?_
  rintro e w3 ⟨rfl, b3⟩
  have B3 := Lib.hid (B2.out.trans (b3.mono B2.out.size))
  have S3 := Lib.hid (S2.out.below b3)
  have R3 := Lib.hid (R2.out.below b3 R2.out.lt)
  clear b3 S2 R2 E1 E2
  have SP := Lib.hid (spans_any w3 v n A R S3.out G.out (224 * k + t % 48) (by omega) (by omega) F)
  go_wp2_with ((with_reducible refine Ua.load_frame (o := ⟨some 42, _, _, _, _, _⟩) rfl _ rfl _ _ ?_ R3.out ?_); (exact rfl))
  refine SP.out.mono ?_
  rintro e w4 ⟨v1, l, rfl, o4, p4, b4⟩
  have IN : Hid (∀ i, i < l.length → Glo A R n (224 * k) ≤ fr l i ∧ tp l i ≤ Glo A R n (224 * k + 224)) := fun i hi => lows_in p4 (by omega) (by omega) i hi
  have NO : Hid (l.length = 0 → ∀ i, i < 11 → F i = true) := fun h i hi => lows_none G.out p4 (by omega) (by omega) h i hi
  have B4 := Lib.hid (B3.out.trans (b4.mono B3.out.size))
  have R4 := Lib.hid (R3.out.below b4 R3.out.lt)
  obtain ⟨a4, cap4, rfl, h1, h2, hAt⟩ := o4.sp
  have HAt := Lib.hid hAt
  clear o4 p4 b4 hAt SP S3 R3
  unfold maxLen at h2
  generalize Glo A R n (224 * k) = X at *
  generalize Glo A R n (224 * k + 224) = Y at *
  generalize Glo A R n (224 * k + 224 + 224) = Z at *
  generalize hn : l.length = len at *
  have HN := Lib.hid hn
  clear hn
  go_wp2
  go_loop [15] (fun i => ∃ j : Nat, j ≤ len ∧ i = .int .i64 j) (fun i => len - (intOf i).toNat)
  case atStart => exact ⟨0, Nat.zero_le _, rfl⟩
  case round =>
    obtain ⟨j, hj, rfl⟩ := hrel
    by_cases hlt : j < len
    · obtain ⟨b, off, rfl, hA⟩ := HAt.out (by omega)
      obtain ⟨c1, c2⟩ := hA j (by have := HN.out; omega)
      have HA := Lib.hid hA
      clear hA
      obtain ⟨i1, i2⟩ := IN.out j hlt
      generalize fr l j = p at *
      generalize tp l j = q at *
      go_wp2
      go_round
      case rel => exact ⟨j + 1, by omega, by go_num⟩
      case measure => simp [intOf]; omega
    · obtain rfl : j = len := by omega
      go_wp2_with fail
      refine (awake_any _).mono ?_
      rintro e w5 ⟨rfl, b5⟩
      have B5 := Lib.hid (B4.out.trans (b5.mono B4.out.size))
      have R5 := Lib.hid (R4.out.below b5 R4.out.lt)
      clear b5
      by_cases hz : j = 0
      · have R6 := Lib.hid (R5.out.to (G := yes) (fun i hi => NO.out hz i hi))
        have c0 := R6.out.cell 0 (by omega)
        have c1 := R6.out.cell 1 (by omega)
        have c2 := R6.out.cell 2 (by omega)
        have c3 := R6.out.cell 3 (by omega)
        have c4 := R6.out.cell 4 (by omega)
        have c5 := R6.out.cell 5 (by omega)
        have c6 := R6.out.cell 6 (by omega)
        have c7 := R6.out.cell 7 (by omega)
        have c8 := R6.out.cell 8 (by omega)
        have c9 := R6.out.cell 9 (by omega)
        have c10 := R6.out.cell 10 (by omega)
        simp only [yes] at c0 c1 c2 c3 c4 c5 c6 c7 c8 c9 c10
        subst hz
        go_wp2
        go_ret
        exact ⟨rfl, B5.out⟩
      · have hp : 0 < j := by omega
        clear hz
        go_wp2
        go_ret
        exact ⟨rfl, B5.out⟩

theorem sspans_any (w : World) (v : Value) (n : Nat) (A R : Nat → Int) (S : Tk.Steps w v n A R) (t : Int) (t0 : 0 ≤ t) (t1 : t < 4294967296) (F : Nat → Bool) (k : Int) (k0 : 0 ≤ k) (k1 : k < 65536) :
    Calls Try.prog 3 #[v, .int .u32 t, .agg (arr F), .int .u16 k] w fun e w' => e = .returned (.bool true) ∧ Below w.heap.size w w' := by
  cases g : goodB n A R with
  | true => exact sspans_good w v n A R S (goodB_true.1 g) t t0 t1 F k k0 k1
  | false => exact sspans_bad w v n A R S g t F k
theorem sown_any (w : World) (v : Value) (n : Nat) (A R : Nat → Int) (S : Tk.Steps w v n A R) (F : Nat → Bool) (k t : Int) (k0 : 0 ≤ k) (k1 : k ≤ 255) (t0 : 0 ≤ t) (t1 : t ≤ 255) :
    Calls Try.prog 4 #[v, .agg (arr F), .int .u8 k, .int .u8 t] w fun e w' => e = .returned (.bool true) ∧ Below w.heap.size w w' := by
  cases g : goodB n A R with
  | true => exact sown_good w v n A R S (goodB_true.1 g) F k t k0 k1 t0 t1
  | false => exact sown_bad w v n A R S g F k t

end Go.Proofs.Ytkhgaacokbebiaa.Se
