/- The two statements of layer 7, walked: each returns true and writes nothing that was there. -/
import Derived.Test.YtfoaneckegkhcaaBaCode
import Derived.Test.YtfoaneckegkhcaaUaPut
import Derived.Test.YtfoaneckegkhcaaUaRef
import Derived.Test.YtfoaneckegkhcaaSeSpans
import Derived.Test.YtfoaneckegkhcaaTkRGood
namespace Go.Proofs.Ytfoaneckegkhcaa.Ba
open Go.RowKit Go.Proofs.Ytfoaneckegkhcaa.Sp
open Go.Proofs.Ytfoaneckegkhcaa.Tk (GoodP Glo goodB goodB_true goodB_yes rgood_any)
open Go.Proofs.Ytfoaneckegkhcaa.Wi (PlainOf Plain Made Few Near FallV)
open Go.Proofs.Ytfoaneckegkhcaa.Se (lows lows_in spans_any Glo_in Glo0 Loc0 good0)
open Go.Proofs.Ytfoaneckegkhcaa.Sa (lows_short plain_span)
open Go.Proofs.Ytfoaneckegkhcaa.Ua (arr frm rput_any)
open Go.Proofs.Ytfoaneckegkhcaa.Rw (Ow Rd)

theorem at_bool {P : Program} {f : Nat} {args : Array Value} {w : World} {B : Nat} {a b : Bool} (e : a = b) (c : Calls P f args w fun e w' => e = .returned (.bool a) ∧ Below B w w') : Calls P f args w fun e w' => e = .returned (.bool b) ∧ Below B w w' := by rw [← e]; exact c
theorem lows_close {n : Nat} {A R : Nat → Int} {F : Nat → Bool} {m : Int} {l : List S2} (h : PlainOf (lows (Glo A R n) F m 11) l) : Near l := by
  have b : ∀ i, i < l.length → 0 ≤ fr l i ∧ fr l i < tp l i ∧ tp l i ≤ 4294967296 := fun i hi => by
    have a := lows_in h (Int.le_refl m) (Int.le_refl (m + 176)) i hi
    have c := Glo_in A R n m
    have d := Glo_in A R n (m + 176)
    have e := plain_span h.1 hi
    omega
  refine ⟨fun i hi => ?_, fun i hi => ?_, fun i hi => ?_, fun i hi => ?_⟩ <;> have := b i hi <;> omega
theorem steps_nil (w : World) (A R : Nat → Int) : Tk.Steps w (.slice none 0 0) 0 A R := .inl ⟨none, 0, rfl, by unfold maxLen; omega, rfl⟩
theorem steps_form {w : World} {v : Value} {n : Nat} {A R : Nat → Int} (S : Tk.Steps w v n A R) : ∃ a cap, v = .slice a n cap ∧ n ≤ maxLen ∧ (0 < n → ∃ b off, a = some ⟨b, off, none⟩ ∧ ∀ i, i < n → w.cell? ⟨b, off + i * 2, none⟩ = some (.int .i64 (A i)) ∧ w.cell? ⟨b, off + i * 2 + 1, none⟩ = some (.int .i64 (R i))) := by
  rcases S with ⟨a, cap, rfl, h, rfl⟩ | ⟨b, off, cap, rfl, h1, h2, hc⟩
  · exact ⟨a, cap, rfl, Nat.zero_le _, fun h => by omega⟩
  · exact ⟨_, cap, rfl, by omega, fun _ => ⟨b, off, rfl, hc⟩⟩
theorem meas_one {w : World} {l x : List S2} {A R : Nat → Int} {n : Nat} {f t : Int} (hx : PlainOf l x) {e : Ending} {w' : World} (p : MeasPost w l A R n f t e w') :
    e = .returned (.tuple #[.int .i64 (MeasV x A R n f t).1, .int .i64 (MeasV x A R n f t).2]) ∧ Below w.heap.size w w' := by
  obtain ⟨y, hy, he, hb⟩ := p
  rw [hy.one hx] at he
  exact ⟨he, hb⟩

/-- The example's line. -/
def ex : List S2 := [(100, 116), (132, 148), (164, 180), (196, 212), (228, 244)]
def zero (_ : Nat) : Int := 0
theorem five_ex : five (Glo zero zero 0) 100 = ex := by
  simp only [five, ex, Glo0 _ _ _ (show (0 : Int) ≤ 100 by omega) (by omega), Glo0 _ _ _ (show (0 : Int) ≤ 100 + 16 by omega) (by omega), Glo0 _ _ _ (show (0 : Int) ≤ 100 + 32 by omega) (by omega), Glo0 _ _ _ (show (0 : Int) ≤ 100 + 48 by omega) (by omega), Glo0 _ _ _ (show (0 : Int) ≤ 100 + 64 by omega) (by omega), Glo0 _ _ _ (show (0 : Int) ≤ 100 + 80 by omega) (by omega), Glo0 _ _ _ (show (0 : Int) ≤ 100 + 96 by omega) (by omega), Glo0 _ _ _ (show (0 : Int) ≤ 100 + 112 by omega) (by omega), Glo0 _ _ _ (show (0 : Int) ≤ 100 + 128 by omega) (by omega), Glo0 _ _ _ (show (0 : Int) ≤ 100 + 144 by omega) (by omega)]
  rfl
theorem one_ex {l x : List S2} (h : PlainOf (lows (Glo zero zero 0) (frm 85 true) 100 11) l) (hx : PlainOf l x) : x = ex := by
  have p := five_plain (good0 zero zero) (m := 100) (by omega) (by omega)
  rw [lows_five, five_ex] at h
  rw [five_ex] at p
  have hx' : PlainOf ex x := ⟨hx.1, fun t => (hx.2 t).trans (h.2 t)⟩
  exact hx'.one ⟨p, fun _ => Iff.rfl⟩
theorem ex_1 : MeasV ex zero zero 0 0 200 = (128, 0) := by
  have f : FallV ex 0 200 = (100, true) := by decide
  have s : starts ex 0 = [100, 132, 164, 196, 228] := by decide
  unfold MeasV
  rw [f, s, if_pos rfl, if_pos (by decide)]
  show (Tk.Loc zero zero 0 228 - Tk.Loc zero zero 0 100, (0 : Int)) = _
  rw [Loc0 _ _ 228 (by omega) (by omega), Loc0 _ _ 100 (by omega) (by omega)]
  rfl
theorem ex_2 : MeasV ex zero zero 0 0 100 = (0, 3) := by
  have f : FallV ex 0 100 = (0, false) := by decide
  unfold MeasV; rw [f]; rfl
theorem ex_3 : MeasV ex zero zero 0 101 200 = (0, 9) := by
  have f : FallV ex 101 200 = (132, true) := by decide
  have s : starts ex 101 = [132, 164, 196, 228] := by decide
  unfold MeasV; rw [f, s]; rfl
theorem ex_4 : (starts ex 0).take (Int.toNat 2) = [100, 132] := by decide
theorem at_meas {w : World} {l : List S2} {A R : Nat → Int} {n : Nat} {f t a c : Int} (h : ∀ x, PlainOf l x → MeasV x A R n f t = (a, c)) {e : Ending} {w' : World} (p : MeasPost w l A R n f t e w') : e = .returned (.tuple #[.int .i64 a, .int .i64 c]) ∧ Below w.heap.size w w' := by
  obtain ⟨x, hx, he, hb⟩ := p
  rw [h x hx] at he
  exact ⟨he, hb⟩

set_option maxHeartbeats 1000000 in
theorem awake_any (w : World) : Calls Try.prog 6 #[] w fun e w' => e = .returned (.bool true) ∧ Below w.heap.size w w' := by
  go_enter Try.func6, Try.ntmps6
  go_wp2_with fail
  refine (rput_any _ 85 true (by omega) (by omega)).mono ?_
  rintro e w1 ⟨rfl, b1⟩
  have B1 := Lib.hid b1
  clear b1
  go_wp2_with fail
  refine (spans_any _ _ 0 zero zero (steps_nil _ _ _) (good0 _ _) 100 (by omega) (by omega) (frm 85 true)).mono ?_
  rintro e w2 ⟨v1, l, rfl, o2, p2, b2⟩
  have B2 := Lib.hid (B1.out.trans (b2.mono B1.out.size))
  have HL := Lib.hid (lows_short p2)
  have HN := Lib.hid (lows_close p2)
  have PX := Lib.hid p2
  have S2 := Lib.hid o2.sp
  clear o2 p2 b2 B1
  go_wp2_with fail
  refine (measure_any _ _ _ l S2.out HN.out HL.out 0 zero zero (steps_nil _ _ _) (good0 _ _) 0 200 (by omega)).mono ?_
  intro e w3 hp
  obtain ⟨rfl, b3⟩ := at_meas (a := 128) (c := 0) (fun x hx => by rw [one_ex PX.out hx]; exact ex_1) hp
  have B3 := Lib.hid (B2.out.trans (b3.mono B2.out.size))
  have S3 := Lib.hid (S2.out.below b3)
  clear hp b3 S2 B2
  go_wp2_with fail
  refine (measure_any _ _ _ l S3.out HN.out HL.out 0 zero zero (steps_nil _ _ _) (good0 _ _) 0 100 (by omega)).mono ?_
  intro e w4 hp
  have hp' := hp
  obtain ⟨x, hx, _⟩ := hp'
  have HX := Lib.hid hx
  obtain ⟨rfl, b4⟩ := at_meas (a := 0) (c := 3) (fun x hx => by rw [one_ex PX.out hx]; exact ex_2) hp
  have B4 := Lib.hid (B3.out.trans (b4.mono B3.out.size))
  have S4 := Lib.hid (S3.out.below b4)
  clear hp b4 S3 B3 hx
  go_wp2_with fail
  refine (measure_any _ _ _ l S4.out HN.out HL.out 0 zero zero (steps_nil _ _ _) (good0 _ _) 101 200 (by omega)).mono ?_
  intro e w5 hp
  obtain ⟨rfl, b5⟩ := at_meas (a := 0) (c := 9) (fun x hx => by rw [one_ex PX.out hx]; exact ex_3) hp
  have B5 := Lib.hid (B4.out.trans (b5.mono B4.out.size))
  have S5 := Lib.hid (S4.out.below b5)
  clear hp b5 S4 B4
  go_wp2_with fail
  refine (falls_any _ _ l S5.out HN.out HL.out 0 2 (by omega) (by omega)).mono ?_
  rintro e w6 ⟨v6, o, rfl, o6, ho, b6⟩
  have E := ho x HX.out
  rw [one_ex PX.out HX.out, ex_4] at E
  subst E
  have B6 := Lib.hid (B5.out.trans (b6.mono B5.out.size))
  obtain ⟨g6, cap6, rfl, _, _, h1, h2, _, hA⟩ := o6.form (by decide)
  have c1 : w6.cell? ⟨g6, 1, none⟩ = some (.int .i64 132) := hA 1 (by decide) 0 _ rfl
  clear ho o6 hA b6 S5 B5 HL HN PX HX
  go_wp2_with (first | (go_at_call 12; refine (at_bool (show fitsB 124 = true by decide) (fits_any _ 124)).mono ?_; rintro e w7 ⟨rfl, b7⟩; have B7 := Lib.hid (B6.out.trans (b7.mono B6.out.size)); clear b7))
  refine (at_bool (show fitsB 133 = false by decide) (fits_any _ 133)).mono ?_
  rintro e w8 ⟨rfl, b8⟩
  have B8 := Lib.hid (B7.out.trans (b8.mono B7.out.size))
  clear b8
  go_wp2
  go_ret
  exact ⟨rfl, B8.out⟩

set_option maxHeartbeats 400000 in
theorem measures_bad (w : World) (v u : Value) (n : Nat) (A R : Nat → Int) (S : Tk.Steps w u n A R) (g : goodB n A R = false) (f t k m : Int) :
    Calls Try.prog 3 #[v, u, .int .u32 f, .int .u32 t, .int .i64 k, .int .i64 m] w fun e w' => e = .returned (.bool true) ∧ Below w.heap.size w w' := by
  have S0 := Lib.hid S
  have G := Lib.hid g
  clear S g
  go_enter Try.func3, Try.ntmps3
  go_wp2_with fail
  refine (at_bool G.out (rgood_any _ _ _ _ _ S0.out)).mono ?_
  rintro e w1 ⟨rfl, b1⟩
  have B1 := Lib.hid b1
  clear b1
  go_wp2_with fail
  refine (awake_any _).mono ?_
  rintro e w2 ⟨rfl, b2⟩
  have B2 := Lib.hid (B1.out.trans (b2.mono B1.out.size))
  clear b2
  go_wp2
  go_ret
  exact ⟨rfl, B2.out⟩

/-- What is left of the statement behind 'k': with a k of at most 20. -/
theorem len_take (L : List Int) (k : Int) (h : k ≤ 20) : (L.take k.toNat).length ≤ 20 := by rw [List.length_take]; omega

set_option maxHeartbeats 2000000 in
theorem measures_good (w : World) (v u : Value) (l0 : List S2) (P : Sp w v l0) (n : Nat) (A R : Nat → Int) (S : Tk.Steps w u n A R) (g : GoodP n A R) (f t k m : Int) (f0 : 0 ≤ f) (t0 : 0 ≤ t) :
    Calls Try.prog 3 #[v, u, .int .u32 f, .int .u32 t, .int .i64 k, .int .i64 m] w fun e w' => e = .returned (.bool true) ∧ Below w.heap.size w w' := by
  have P0 := Lib.hid P
  have S0 := Lib.hid S
  have G := Lib.hid g
  clear P S g
  go_enter Try.func3, Try.ntmps3
  go_wp2_with fail
  refine (at_bool (goodB_yes G.out) (rgood_any _ _ _ _ _ S0.out)).mono ?_
  rintro e w1 ⟨rfl, b1⟩
  have B1 := Lib.hid b1
  have S1 := Lib.hid (S0.out.below b1)
  have P1 := Lib.hid (P0.out.below b1)
  clear b1 S0 P0
  go_wp2_with fail
  refine (few_any _ _ _ P1.out).mono ?_
  rintro e w2 ⟨v2, l, rfl, o2, ⟨hl, hn⟩, b2⟩
  have B2 := Lib.hid (B1.out.trans (b2.mono B1.out.size))
  have S2 := Lib.hid (S1.out.below b2)
  have P2 := Lib.hid o2.sp
  have N := Lib.hid hn
  have f1 : 0 ≤ f % 1073741824 := by omega
  clear o2 hn b2 S1 P1
  by_cases hk : 20 < k
  all_goals
    go_wp2_with fail
    refine (measure_any _ _ _ l P2.out N.out (by omega) n A R S2.out G.out (f % 1073741824) (t % 1073741824) f1).mono ?_
    rintro e w3 ⟨x, hx, rfl, b3⟩
    have PX := Lib.hid hx
    have B3 := Lib.hid (B2.out.trans (b3.mono B2.out.size))
    have S3 := Lib.hid (S2.out.below b3)
    have P3 := Lib.hid (P2.out.below b3)
    clear hx b3 S2 P2 B2
    go_wp2_with fail
    refine (rmeasure_any _ _ _ l P3.out N.out n A R S3.out G.out (f % 1073741824) (t % 1073741824)).mono ?_
    intro e w4 hp
    obtain ⟨rfl, b4⟩ := meas_one PX.out hp
    have B4 := Lib.hid (B3.out.trans (b4.mono B3.out.size))
    have P4 := Lib.hid (P3.out.below b4)
    clear hp b4 S3 P3 B3
    generalize MeasV x A R n (f % 1073741824) (t % 1073741824) = q at *
    obtain ⟨q1, q2⟩ := q
    go_wp2_with fail
    refine (falls_any _ _ l P4.out N.out (by omega) _ _ f1 (by omega)).mono ?_
    rintro e w5 ⟨v5, o5, rfl, O5, h5, b5⟩
    have B5 := Lib.hid (B4.out.trans (b5.mono B4.out.size))
    have P5 := Lib.hid (P4.out.below b5)
    have W5 := Lib.hid O5
    have E5 := Lib.hid (h5 x PX.out)
    clear b5 P4 B4 O5 h5
    go_wp2_with fail
    refine (rfalls_any _ _ l P5.out N.out _ _ (by omega)).mono ?_
    rintro e w6 ⟨v6, o6, rfl, O6, h6, b6⟩
    have B6 := Lib.hid (B5.out.trans (b6.mono B5.out.size))
    have R5 := Lib.hid (W5.out.keep b6).rd
    have R6 := Lib.hid O6.rd
    have E6 := h6 x PX.out
    rw [← E5.out] at E6
    subst E6
    have L5 : o6.length ≤ 20 := by rw [E5.out]; exact len_take _ _ (by omega)
    obtain ⟨a5, cap5, rfl, _, k5, hc5⟩ := R5.out
    obtain ⟨a6, cap6, rfl, _, k6, hc6⟩ := R6.out
    have H5 := Lib.hid hc5
    have H6 := Lib.hid hc6
    clear b6 P5 B5 O6 h6 E5 W5 R5 R6 hc5 hc6
    generalize hlen : o6.length = len at *
    have HL := Lib.hid hlen
    clear hlen
    go_wp2
    go_loopw [23] (fun i wr => ∃ j : Nat, j ≤ len ∧ i = .int .i64 j ∧ Hid (Below w6.heap.size w6 wr)) (fun i _ => len - (intOf i).toNat)
    case atStart => exact ⟨0, Nat.zero_le _, rfl, Below.refl _ _⟩
    case round =>
      obtain ⟨j, hj, rfl, bw⟩ := hrel
      by_cases hlt : j < len
      · obtain ⟨b5, f5, rfl, A5⟩ := H5.out (by omega)
        obtain ⟨b6, f6, rfl, A6⟩ := H6.out (by omega)
        have c5 : wr.cell? ⟨b5, f5 + j, none⟩ = some (.int .i64 (o6.getD j 0)) := by
          have c := A5 j (by have := HL.out; omega) 0 _ rfl
          simp only [Rw.int, Nat.mul_one, Nat.add_zero] at c
          exact (bw.out.cell (World.block_lt_of_cell? _ _ c)).trans c
        have c6 : wr.cell? ⟨b6, f6 + j, none⟩ = some (.int .i64 (o6.getD j 0)) := by
          have c := A6 j (by have := HL.out; omega) 0 _ rfl
          simp only [Rw.int, Nat.mul_one, Nat.add_zero] at c
          exact (bw.out.cell (World.block_lt_of_cell? _ _ c)).trans c
        have K5 := Lib.hid A5
        have K6 := Lib.hid A6
        clear A5 A6
        generalize o6.getD j 0 = z at *
        go_wp2
        go_quiet (fail)
        go_wp2
        go_roundw
        case rel => exact ⟨j + 1, by omega, by go_num, below_drewN bw.out _⟩
        case measure => simp [intOf]; omega
      · obtain rfl : j = len := by omega
        have B7 := Lib.hid (B6.out.trans (bw.out.mono B6.out.size))
        go_wp2_with fail
        refine (awake_any _).mono ?_
        rintro e w8 ⟨rfl, b8⟩
        have B8 := Lib.hid (B7.out.trans (b8.mono B7.out.size))
        clear b8
        by_cases m1 : 124 ≤ m
        · by_cases m2 : m ≤ 132
          · go_wp2_with fail
            refine (at_bool (show fitsB m = true by simp [fitsB]; omega) (fits_any _ m)).mono ?_
            rintro e w9 ⟨rfl, b9⟩
            have B9 := Lib.hid (B8.out.trans (b9.mono B8.out.size))
            clear b9
            go_wp2
            go_ret
            exact ⟨Ua.ret_bool (by first | rfl | (simp; done) | (simp; omega)), B9.out⟩
          · go_wp2_with fail
            refine (at_bool (show fitsB m = false by simp [fitsB]; omega) (fits_any _ m)).mono ?_
            rintro e w9 ⟨rfl, b9⟩
            have B9 := Lib.hid (B8.out.trans (b9.mono B8.out.size))
            clear b9
            go_wp2
            go_ret
            exact ⟨Ua.ret_bool (by first | rfl | (simp; done) | (simp; omega)), B9.out⟩
        · go_wp2_with fail
          refine (at_bool (show fitsB m = false by simp [fitsB]; omega) (fits_any _ m)).mono ?_
          rintro e w9 ⟨rfl, b9⟩
          have B9 := Lib.hid (B8.out.trans (b9.mono B8.out.size))
          clear b9
          go_wp2
          go_ret
          exact ⟨Ua.ret_bool (by first | rfl | (simp; done) | (simp; omega)), B9.out⟩

theorem measures_any (w : World) (v u : Value) (l0 : List S2) (P : Sp w v l0) (n : Nat) (A R : Nat → Int) (S : Tk.Steps w u n A R) (f t k m : Int) (f0 : 0 ≤ f) (t0 : 0 ≤ t) :
    Calls Try.prog 3 #[v, u, .int .u32 f, .int .u32 t, .int .i64 k, .int .i64 m] w fun e w' => e = .returned (.bool true) ∧ Below w.heap.size w w' := by
  cases g : goodB n A R with
  | true => exact measures_good w v u l0 P n A R S (goodB_true.1 g) f t k m f0 t0
  | false => exact measures_bad w v u n A R S g f t k m

set_option maxHeartbeats 2000000 in
theorem fits_law (w : World) (u v : Value) (n n' : Nat) (A R A' R' : Nat → Int) (S : Tk.Steps w u n A R) (S' : Tk.Steps w v n' A' R') (t : Int) (t0 : 0 ≤ t) (t1 : t < 4294967296) :
    Calls Try.prog 4 #[u, v, .int .u32 t] w fun e w' => e = .returned (.bool true) ∧ Below w.heap.size w w' := by
  have S0 := Lib.hid S
  have S0' := Lib.hid S'
  obtain ⟨a, cap, rfl, n0, hc⟩ := steps_form S
  obtain ⟨a', cap', rfl, n0', hc'⟩ := steps_form S'
  have HC := Lib.hid hc
  have HC' := Lib.hid hc'
  have M0 : 0 ≤ t % 1073741824 := by omega
  have M1 : t % 1073741824 ≤ 1073741824 := by omega
  clear S S' hc hc'
  unfold maxLen at n0 n0'
  go_enter Try.func4, Try.ntmps4
  go_wp2
  go_loop [7] (fun i => ∃ k : Nat, k ≤ n ∧ i = .int .i64 k ∧ Hid (∀ j, j < k → -10000 ≤ R j ∧ R j ≤ 10000)) (fun i => n - (intOf i).toNat)
  case atStart => exact ⟨0, Nat.zero_le _, rfl, fun j hj => by omega⟩
  case round =>
    obtain ⟨k, hk, rfl, hs⟩ := hrel
    by_cases hlt : k < n
    · obtain ⟨b, off, rfl, hA⟩ := HC.out (by omega)
      have c2 := (hA k hlt).2
      have HA := Lib.hid hA
      clear hA
      by_cases p1 : R k < -10000
      · go_wp2_with fail
        refine (awake_any _).mono ?_
        rintro e w2 ⟨rfl, b2⟩
        have B2 := Lib.hid b2
        clear b2
        go_wp2
        go_ret
        exact ⟨rfl, B2.out⟩
      · by_cases p2 : 10000 < R k
        · go_wp2_with fail
          refine (awake_any _).mono ?_
          rintro e w2 ⟨rfl, b2⟩
          have B2 := Lib.hid b2
          clear b2
          go_wp2
          go_ret
          exact ⟨rfl, B2.out⟩
        · have ST : Hid (∀ j, j < k + 1 → -10000 ≤ R j ∧ R j ≤ 10000) := fun j hj => by
            by_cases e : j = k
            · subst e; omega
            · exact hs.out j (by omega)
          go_wp2
          go_round
          case rel => exact ⟨k + 1, by omega, by go_num, ST⟩
          case measure => simp [intOf]; omega
    · obtain rfl : k = n := by omega
      go_wp2
      go_loop [8] (fun i => ∃ k : Nat, k ≤ n' ∧ i = .int .i64 k ∧ Hid (∀ j, j < k → -10000 ≤ R' j ∧ R' j ≤ 10000)) (fun i => n' - (intOf i).toNat)
      case atStart => exact ⟨0, Nat.zero_le _, rfl, fun j hj => by omega⟩
      case round =>
        obtain ⟨k', hk', rfl, hs'⟩ := hrel
        by_cases hlt' : k' < n'
        · obtain ⟨b, off, rfl, hA⟩ := HC'.out (by omega)
          have c2 := (hA k' hlt').2
          have HA := Lib.hid hA
          clear hA
          by_cases p1 : R' k' < -10000
          · go_wp2_with fail
            refine (awake_any _).mono ?_
            rintro e w2 ⟨rfl, b2⟩
            have B2 := Lib.hid b2
            clear b2
            go_wp2
            go_ret
            exact ⟨rfl, B2.out⟩
          · by_cases p2 : 10000 < R' k'
            · go_wp2_with fail
              refine (awake_any _).mono ?_
              rintro e w2 ⟨rfl, b2⟩
              have B2 := Lib.hid b2
              clear b2
              go_wp2
              go_ret
              exact ⟨rfl, B2.out⟩
            · have ST : Hid (∀ j, j < k' + 1 → -10000 ≤ R' j ∧ R' j ≤ 10000) := fun j hj => by
                by_cases e : j = k'
                · subst e; omega
                · exact hs'.out j (by omega)
              go_wp2
              go_round
              case rel => exact ⟨k' + 1, by omega, by go_num, ST⟩
              case measure => simp [intOf]; omega
        · obtain rfl : k' = n' := by omega
          go_wp2_with fail
          refine (rgood_any _ _ _ _ _ S0.out).mono ?_
          rintro e w1 ⟨rfl, b1⟩
          have B1 := Lib.hid b1
          have S1 := Lib.hid (S0.out.below b1)
          have S1' := Lib.hid (S0'.out.below b1)
          clear b1 S0 S0'
          cases g : goodB k A R with
          | false =>
            clear g
            go_wp2_with fail
            refine (awake_any _).mono ?_
            rintro e w2 ⟨rfl, b2⟩
            have B2 := Lib.hid (B1.out.trans (b2.mono B1.out.size))
            clear b2
            go_wp2
            go_ret
            exact ⟨rfl, B2.out⟩
          | true =>
            have G : Hid (Sa.Calm k A R 10000) := ⟨goodB_true.1 g, by omega, hs.out⟩
            clear g
            go_wp2_with fail
            refine (rgood_any _ _ _ _ _ S1'.out).mono ?_
            rintro e w2 ⟨rfl, b2⟩
            have B2 := Lib.hid (B1.out.trans (b2.mono B1.out.size))
            have S2 := Lib.hid (S1.out.below b2)
            have S2' := Lib.hid (S1'.out.below b2)
            clear b2 S1 S1' B1
            cases g' : goodB k' A' R' with
            | false =>
              clear g'
              go_wp2_with fail
              refine (awake_any _).mono ?_
              rintro e w3 ⟨rfl, b3⟩
              have B3 := Lib.hid (B2.out.trans (b3.mono B2.out.size))
              clear b3
              go_wp2
              go_ret
              exact ⟨rfl, B3.out⟩
            | true =>
              have G' : Hid (Sa.Calm k' A' R' 10000) := ⟨goodB_true.1 g', by omega, hs'.out⟩
              clear g'
              go_wp2_with fail
              refine (rput_any _ 85 true (by omega) (by omega)).mono ?_
              rintro e w3 ⟨rfl, b3⟩
              have B3 := Lib.hid (B2.out.trans (b3.mono B2.out.size))
              have S3 := Lib.hid (S2.out.below b3)
              have S3' := Lib.hid (S2'.out.below b3)
              clear b3 S2 S2' B2
              go_wp2_with fail
              refine (spans_any _ _ k A R S3.out G.out.good (t % 1073741824) M0 (by omega) (frm 85 true)).mono ?_
              rintro e w4 ⟨v1, l, rfl, o4, p4, b4⟩
              have B4 := Lib.hid (B3.out.trans (b4.mono B3.out.size))
              have HL := Lib.hid (lows_short p4)
              have HN := Lib.hid (lows_close p4)
              have PX := Lib.hid p4
              have P4 := Lib.hid o4.sp
              have S4' := Lib.hid (S3'.out.below b4)
              clear o4 p4 b4 S3 S3' B3
              go_wp2_with fail
              refine (measure_any _ _ _ l P4.out HN.out HL.out k' A' R' S4'.out G'.out.good 0 2147483648 (by omega)).mono ?_
              rintro e w5 ⟨x, hx, rfl, b5⟩
              have B5 := Lib.hid (B4.out.trans (b5.mono B4.out.size))
              rw [meas_five G.out M0 M1 PX.out hx]
              have F := fits G.out G'.out M0 M1
              generalize Tk.Loc A' R' k' (Glo A R k (t % 1073741824 + 128)) - Tk.Loc A' R' k' (Glo A R k (t % 1073741824)) = d at *
              clear hx b5 B4 HL HN PX P4 S4'
              go_wp2_with fail
              refine (awake_any _).mono ?_
              rintro e w6 ⟨rfl, b6⟩
              have B6 := Lib.hid (B5.out.trans (b6.mono B5.out.size))
              clear b6
              go_wp2_with fail
              refine (at_bool (show fitsB d = true by simp [fitsB, F.1, F.2]) (fits_any _ d)).mono ?_
              rintro e w7 ⟨rfl, b7⟩
              have B7 := Lib.hid (B6.out.trans (b7.mono B6.out.size))
              clear b7
              go_wp2
              go_ret
              exact ⟨rfl, B7.out⟩

end Go.Proofs.Ytfoaneckegkhcaa.Ba
