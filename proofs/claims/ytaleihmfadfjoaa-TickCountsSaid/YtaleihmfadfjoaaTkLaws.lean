/- The two statements of layer 1, walked: each returns true and writes nothing that was there. -/
import Derived.Test.YtaleihmfadfjoaaTkAwake
namespace Go.Proofs.Ytaleihmfadfjoaa.Tk
open Go.RowKit

theorem Steps.form {w : World} {v : Value} {n : Nat} {A R : Nat → Int} (S : Steps w v n A R) : ∃ a cap, v = .slice a n cap ∧ n ≤ cap ∧ cap ≤ maxLen := by
  rcases S with ⟨a, cap, rfl, h, rfl⟩ | ⟨b, off, cap, rfl, h, h', _⟩
  · exact ⟨_, _, rfl, Nat.zero_le _, h⟩
  · exact ⟨_, _, rfl, h, h'⟩
theorem Steps.cut {w : World} {a : Option Addr} {n cap : Nat} {A R : Nat → Int} (S : Steps w (.slice a n cap) n A R) (k : Nat) (h : k < n) : Steps w (.slice a k cap) k A R := by
  rcases S with ⟨_, _, _, _, rfl⟩ | ⟨b, off, cap', e, h1, h', hc⟩
  · omega
  · injection e with e1 e2 e3
    subst e1 e3
    exact .inr ⟨b, off, cap, rfl, by omega, h', fun i hi => hc i (by omega)⟩

set_option maxHeartbeats 400000 in
theorem counts_good (w : World) (a : Option Addr) (n cap : Nat) (A R : Nat → Int) (S : Steps w (.slice a n cap) n A R) (g : GoodP n A R) (t m : Int) :
    Calls Try.prog 3 #[.slice a n cap, .int .i64 t, .int .i64 m] w fun e w' => e = .returned (.bool true) ∧ Below w.heap.size w w' := by
  have S := Lib.hid S
  have G := Lib.hid g
  have hn := g.len
  clear g
  go_enter Try.func3, Try.ntmps3
  go_wp2_with fail
  refine (at_bool (goodB_yes G.out) (good_any _ _ _ _ _ S.out)).mono ?_
  rintro e w1 ⟨rfl, b1⟩
  have s1 := Lib.hid (S.out.below b1)
  go_wp2_with fail
  refine (at_bool (goodB_yes G.out) (rgood_any _ _ _ _ _ s1.out)).mono ?_
  rintro e w2 ⟨rfl, b2⟩
  have s2 := Lib.hid (s1.out.below b2)
  go_wp2_with fail
  refine (at_bool (goodB_yes G.out) (rgood_any _ _ _ _ _ s2.out)).mono ?_
  rintro e w3 ⟨rfl, b3⟩
  have s3 := Lib.hid (s2.out.below b3)
  go_wp2_with fail
  refine (awake_any _).mono ?_
  rintro e w4 ⟨rfl, b4⟩
  have s4 := Lib.hid (s3.out.below b4)
  go_wp2_with fail
  refine (local_any _ _ _ _ _ s4.out G.out _).mono ?_
  rintro e w5 ⟨rfl, b5⟩
  have s5 := Lib.hid (s4.out.below b5)
  go_wp2_with fail
  refine (rlocal_any _ _ _ _ _ s5.out G.out _).mono ?_
  rintro e w6 ⟨rfl, b6⟩
  have s6 := Lib.hid (s5.out.below b6)
  go_wp2_with fail
  refine (global_any _ _ _ _ _ _ s6.out G.out).mono ?_
  rintro e w7 ⟨rfl, b7⟩
  have s7 := Lib.hid (s6.out.below b7)
  go_wp2_with fail
  refine (rglobal_any _ _ _ _ _ _ s7.out G.out).mono ?_
  rintro e w8 ⟨rfl, b8⟩
  go_wp2
  go_ret
  have z1 := b1.size
  have z2 := b2.size
  have z3 := b3.size
  have z4 := b4.size
  have z5 := b5.size
  have z6 := b6.size
  have z7 := b7.size
  exact ⟨rfl, b1.trans ((b2.mono (by omega)).trans ((b3.mono (by omega)).trans ((b4.mono (by omega)).trans ((b5.mono (by omega)).trans ((b6.mono (by omega)).trans ((b7.mono (by omega)).trans (b8.mono (by omega))))))))⟩

set_option maxHeartbeats 400000 in
theorem counts_bad (w : World) (a : Option Addr) (n cap : Nat) (h70 : n ≤ 70) (A R : Nat → Int) (S : Steps w (.slice a n cap) n A R) (g : goodB n A R = false) (t m : Int) :
    Calls Try.prog 3 #[.slice a n cap, .int .i64 t, .int .i64 m] w fun e w' => e = .returned (.bool true) ∧ Below w.heap.size w w' := by
  have S := Lib.hid S
  have G := Lib.hid g
  clear g
  go_enter Try.func3, Try.ntmps3
  go_wp2_with fail
  refine (at_bool G.out (good_any _ _ _ _ _ S.out)).mono ?_
  rintro e w1 ⟨rfl, b1⟩
  have s1 := Lib.hid (S.out.below b1)
  go_wp2_with fail
  refine (at_bool G.out (rgood_any _ _ _ _ _ s1.out)).mono ?_
  rintro e w2 ⟨rfl, b2⟩
  have s2 := Lib.hid (s1.out.below b2)
  go_wp2_with fail
  refine (at_bool G.out (rgood_any _ _ _ _ _ s2.out)).mono ?_
  rintro e w3 ⟨rfl, b3⟩
  go_wp2_with fail
  refine (awake_any _).mono ?_
  rintro e w4 ⟨rfl, b4⟩
  go_wp2
  go_ret
  have z1 := b1.size
  have z2 := b2.size
  have z3 := b3.size
  exact ⟨rfl, b1.trans ((b2.mono (by omega)).trans ((b3.mono (by omega)).trans (b4.mono (by omega))))⟩

set_option maxHeartbeats 400000 in
theorem counts_long (w : World) (b off n cap : Nat) (h70 : 70 < n) (hcap : n ≤ cap) (hmax : cap ≤ maxLen) (A R : Nat → Int) (S : Steps w (.slice (some ⟨b, off, none⟩) n cap) n A R) (t m : Int) :
    Calls Try.prog 3 #[.slice (some ⟨b, off, none⟩) n cap, .int .i64 t, .int .i64 m] w fun e w' => e = .returned (.bool true) ∧ Below w.heap.size w w' := by
  have S := Lib.hid (S.cut 70 h70)
  have g : goodB 70 A R = false := goodB_no fun g => by have := g.len; omega
  have G := Lib.hid g
  clear g
  unfold maxLen at hmax
  go_enter Try.func3, Try.ntmps3
  go_wp2_with fail
  refine (at_bool G.out (good_any _ _ _ _ _ S.out)).mono ?_
  rintro e w1 ⟨rfl, b1⟩
  have s1 := Lib.hid (S.out.below b1)
  go_wp2_with fail
  refine (at_bool G.out (rgood_any _ _ _ _ _ s1.out)).mono ?_
  rintro e w2 ⟨rfl, b2⟩
  have s2 := Lib.hid (s1.out.below b2)
  go_wp2_with fail
  refine (at_bool G.out (rgood_any _ _ _ _ _ s2.out)).mono ?_
  rintro e w3 ⟨rfl, b3⟩
  go_wp2_with fail
  refine (awake_any _).mono ?_
  rintro e w4 ⟨rfl, b4⟩
  go_wp2
  go_ret
  have z1 := b1.size
  have z2 := b2.size
  have z3 := b3.size
  exact ⟨rfl, b1.trans ((b2.mono (by omega)).trans ((b3.mono (by omega)).trans (b4.mono (by omega))))⟩

theorem counts_any (w : World) (v : Value) (n : Nat) (A R : Nat → Int) (S : Steps w v n A R) (t m : Int) :
    Calls Try.prog 3 #[v, .int .i64 t, .int .i64 m] w fun e w' => e = .returned (.bool true) ∧ Below w.heap.size w w' := by
  by_cases h70 : n ≤ 70
  · obtain ⟨a, cap, rfl, _, _⟩ := S.form
    cases g : goodB n A R with
    | true => exact counts_good w a n cap A R S (goodB_true.1 g) t m
    | false => exact counts_bad w a n cap h70 A R S g t m
  · have S' := S
    rcases S with ⟨_, _, _, _, rfl⟩ | ⟨b, off, cap, rfl, h1, h2, _⟩
    · omega
    · exact counts_long w b off n cap (by omega) h1 h2 A R S' t m

set_option maxHeartbeats 400000 in
theorem round_bad (w : World) (v : Value) (n : Nat) (A R : Nat → Int) (S : Steps w v n A R) (g : goodB n A R = false) (t m : Int) :
    Calls Try.prog 4 #[v, .int .u32 t, .int .u32 m] w fun e w' => e = .returned (.bool true) ∧ Below w.heap.size w w' := by
  have S := Lib.hid S
  have G := Lib.hid g
  clear g
  go_enter Try.func4, Try.ntmps4
  go_wp2_with fail
  refine (at_bool G.out (good_any _ _ _ _ _ S.out)).mono ?_
  rintro e w1 ⟨rfl, b1⟩
  go_wp2_with fail
  refine (awake_any _).mono ?_
  rintro e w2 ⟨rfl, b2⟩
  go_wp2
  go_ret
  have z1 := b1.size
  exact ⟨rfl, b1.trans (b2.mono (by omega))⟩

set_option maxHeartbeats 400000 in
theorem round_good (w : World) (v : Value) (n : Nat) (A R : Nat → Int) (S : Steps w v n A R) (g : GoodP n A R) (t m : Int) (t0 : 0 ≤ t) (t1 : t < 4294967296) (m0 : 0 ≤ m) (m1 : m < 4294967296) :
    Calls Try.prog 4 #[v, .int .u32 t, .int .u32 m] w fun e w' => e = .returned (.bool true) ∧ Below w.heap.size w w' := by
  have S := Lib.hid S
  have G := Lib.hid g
  have lb := Loc_bd g t t0 (by omega)
  have lm := Loc_mono g (show t ≤ t + 1 by omega)
  have gi := Glo_is A R n m
  have GI := Lib.hid gi
  have g0 := gi.lo
  have g1 := gi.hi
  clear g gi
  go_enter Try.func4, Try.ntmps4
  go_wp2_with fail
  refine (at_bool (goodB_yes G.out) (good_any _ _ _ _ _ S.out)).mono ?_
  rintro e w1 ⟨rfl, b1⟩
  have s1 := Lib.hid (S.out.below b1)
  have z1 := b1.size
  go_wp2_with fail
  refine (local_any _ _ _ _ _ s1.out G.out _).mono ?_
  rintro e w2 ⟨rfl, b2⟩
  have s2 := Lib.hid (s1.out.below b2)
  have z2 := b2.size
  have B2 := b1.trans (b2.mono (B' := w.heap.size) (by omega))
  clear b1 b2 s1 
  go_wp2_with fail
  refine (local_any _ _ _ _ _ s2.out G.out _).mono ?_
  rintro e w3 ⟨rfl, b3⟩
  have s3 := Lib.hid (s2.out.below b3)
  have z3 := b3.size
  have B3 := B2.trans (b3.mono (B' := w.heap.size) (by omega))
  clear b3 s2 B2
  go_wp2_with fail
  refine (global_any _ _ _ _ _ _ s3.out G.out).mono ?_
  rintro e w4 ⟨rfl, b4⟩
  have s4 := Lib.hid (s3.out.below b4)
  have z4 := b4.size
  have B4 := B3.trans (b4.mono (B' := w.heap.size) (by omega))
  clear b4 s3 B3
  generalize Glo A R n m = q at *
  go_wp2_with fail
  refine (awake_any _).mono ?_
  rintro e w5 ⟨rfl, b5⟩
  have s5 := Lib.hid (s4.out.below b5)
  have z5 := b5.size
  have B5 := B4.trans (b5.mono (B' := w.heap.size) (by omega))
  clear b5 s4 B4
  by_cases hq : q = 4294967296
  · subst hq
    go_wp2
    go_ret
    exact ⟨rfl, B5⟩
  · have q1 : (q == 4294967296) = false := by simp; omega
    have th := GI.out.there (by omega)
    clear hq
    go_wp2_with fail
    refine (local_any _ _ _ _ _ s5.out G.out _).mono ?_
    rintro e w6 ⟨rfl, b6⟩
    have s6 := Lib.hid (s5.out.below b6)
    have z6 := b6.size
    have B6 := B5.trans (b6.mono (B' := w.heap.size) (by omega))
    clear b6 s5 B5
    by_cases hz : q = 0
    · subst hz
      go_wp2
      go_ret
      exact ⟨rfl, B6⟩
    · have q2 : (q == 0) = false := by simp; omega
      have be := GI.out.before (q - 1) (by omega) (by omega)
      clear hz
      go_wp2_with fail
      refine (local_any _ _ _ _ _ s6.out G.out _).mono ?_
      rintro e w7 ⟨rfl, b7⟩
      have B7 := B6.trans (b7.mono (B' := w.heap.size) (by omega))
      go_wp2
      go_ret
      exact ⟨rfl, B7⟩

theorem round_any (w : World) (v : Value) (n : Nat) (A R : Nat → Int) (S : Steps w v n A R) (t m : Int) (t0 : 0 ≤ t) (t1 : t < 4294967296) (m0 : 0 ≤ m) (m1 : m < 4294967296) :
    Calls Try.prog 4 #[v, .int .u32 t, .int .u32 m] w fun e w' => e = .returned (.bool true) ∧ Below w.heap.size w w' := by
  cases g : goodB n A R with
  | true => exact round_good w v n A R S (goodB_true.1 g) t m t0 t1 m0 m1
  | false => exact round_bad w v n A R S g t m

end Go.Proofs.Ytaleihmfadfjoaa.Tk
