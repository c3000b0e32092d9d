/- Layer 22: the fixed fact; deeds. -/
import Derived.Test.YtfbhmhgmebaoaaaQeCode
import Derived.Test.YtfbhmhgmebaoaaaRqEq
import Derived.Test.YtfbhmhgmebaoaaaAb
namespace Go.Proofs.Ytfbhmhgmebaoaaa.Qe
open Go.RowKit
open Go.Proofs.Ytfbhmhgmebaoaaa.Rw (Rd Ow At)
open Go.Proofs.Ytfbhmhgmebaoaaa.Rq (Q zQ qA qV ret_bool)
open Go.Proofs.Ytfbhmhgmebaoaaa.Fl (R4 z4)
open Go.Proofs.Ytfbhmhgmebaoaaa.Fs (Only Fx)
set_option maxRecDepth 100000

/-- What two calls that turn the same block have turned. -/
theorem Only.and {G : Nat → Prop} {w w1 w2 : World} (h : Only G w w1) (k : Only G w1 w2) : Only G w w2 := h.trans k fun _ _ g => g
theorem low1 {g : Nat} {w0 w w' : World} (h : Below w0.heap.size w0 w) (o : Only (At1 g) w w') (hg : w0.heap.size ≤ g) : Below w0.heap.size w0 w' := h.trans (o.below h.size (fun k e => by unfold At1 at e; omega))

set_option maxHeartbeats 4000000 in
theorem awake_any (w : World) : Calls Try.prog 14 #[] w fun e w' => e = .returned (.bool true) ∧ Below w.heap.size w w' := by
  have P1 : Hid (∀ W g, Cq W g q0 → Calls Try.prog 10 #[.pointer (some ⟨g, 0, none⟩), .agg #[.int .i64 1, .int .i64 0, .int .i64 0, .int .i64 0, .int .i64 0, .int .u8 0, .int .u8 0, .int .u8 0, .int .u8 0, .int .i64 0]] W fun e w' => e = .returned (.int .i64 0) ∧ Cq w' g ⟨[⟨1, 0, 0, 0, 0, z4, 0⟩], 0⟩ ∧ Only (At1 g) W w') := fun W g h => push_any h ok_0 ⟨1, 0, 0, 0, 0, z4, 0⟩
  have P2 : Hid (∀ W g, Cq W g ⟨[⟨1, 0, 0, 0, 0, z4, 0⟩], 0⟩ → Calls Try.prog 10 #[.pointer (some ⟨g, 0, none⟩), .agg #[.int .i64 2, .int .i64 0, .int .i64 0, .int .i64 0, .int .i64 0, .int .u8 0, .int .u8 0, .int .u8 0, .int .u8 0, .int .i64 0]] W fun e w' => e = .returned (.int .i64 0) ∧ Cq w' g ⟨[⟨1, 0, 0, 0, 0, z4, 0⟩, ⟨2, 0, 0, 0, 0, z4, 0⟩], 0⟩ ∧ Only (At1 g) W w') := fun W g h => push_any h ⟨by decide, by decide, fun e => by cases e⟩ ⟨2, 0, 0, 0, 0, z4, 0⟩
  have P3 : Hid (∀ W g, Cq W g ⟨[⟨1, 0, 0, 0, 0, z4, 0⟩, ⟨2, 0, 0, 0, 0, z4, 0⟩], 0⟩ → Calls Try.prog 8 #[.pointer (some ⟨g, 0, none⟩)] W fun e w' => e = .returned (.tuple #[.agg #[.int .i64 0, .int .i64 0, .int .i64 0, .int .i64 0, .int .i64 0, .int .u8 0, .int .u8 0, .int .u8 0, .int .u8 0, .int .i64 0], .bool false]) ∧ Cq w' g ⟨[⟨1, 0, 0, 0, 0, z4, 0⟩, ⟨2, 0, 0, 0, 0, z4, 0⟩], 1⟩ ∧ Only (At1 g) W w') := fun W g h => fail_any h ⟨by decide, by decide, fun e => by cases e⟩
  have P4 : Hid (∀ W g, Cq W g ⟨[⟨1, 0, 0, 0, 0, z4, 0⟩, ⟨2, 0, 0, 0, 0, z4, 0⟩], 1⟩ → Calls Try.prog 8 #[.pointer (some ⟨g, 0, none⟩)] W fun e w' => e = .returned (.tuple #[.agg #[.int .i64 0, .int .i64 0, .int .i64 0, .int .i64 0, .int .i64 0, .int .u8 0, .int .u8 0, .int .u8 0, .int .u8 0, .int .i64 0], .bool false]) ∧ Cq w' g ⟨[⟨1, 0, 0, 0, 0, z4, 0⟩, ⟨2, 0, 0, 0, 0, z4, 0⟩], 2⟩ ∧ Only (At1 g) W w') := fun W g h => fail_any h ⟨by decide, by decide, fun e => by cases e⟩
  have P5 : Hid (∀ W g, Cq W g ⟨[⟨1, 0, 0, 0, 0, z4, 0⟩, ⟨2, 0, 0, 0, 0, z4, 0⟩], 2⟩ → Calls Try.prog 8 #[.pointer (some ⟨g, 0, none⟩)] W fun e w' => e = .returned (.tuple #[.agg #[.int .i64 1, .int .i64 0, .int .i64 0, .int .i64 0, .int .i64 0, .int .u8 0, .int .u8 0, .int .u8 0, .int .u8 0, .int .i64 0], .bool true]) ∧ Cq w' g ⟨[⟨2, 0, 0, 0, 0, z4, 0⟩], 0⟩ ∧ Only (At1 g) W w') := fun W g h => fail_any h ⟨by decide, by decide, fun e => by cases e⟩
  have P6 : Hid (∀ W g, Cq W g ⟨[⟨2, 0, 0, 0, 0, z4, 0⟩], 0⟩ → Calls Try.prog 12 #[.pointer (some ⟨g, 0, none⟩)] W fun e w' => e = .returned (.tuple #[.agg #[.int .i64 2, .int .i64 0, .int .i64 0, .int .i64 0, .int .i64 0, .int .u8 0, .int .u8 0, .int .u8 0, .int .u8 0, .int .i64 0], .bool true]) ∧ Below W.heap.size W w') := fun W g h => first_any h ⟨by decide, by decide, fun e => by cases e⟩
  have P7 : Hid (∀ W g, Cq W g ⟨[⟨2, 0, 0, 0, 0, z4, 0⟩], 0⟩ → Calls Try.prog 13 #[.pointer (some ⟨g, 0, none⟩)] W fun e w' => e = .returned (.int .i64 1) ∧ Below W.heap.size W w') := fun W g h => len_any h ⟨by decide, by decide, fun e => by cases e⟩
  have N1 := Lib.hid (new_any w)
  go_enter Try.func14, Try.ntmps14
  go_wp2_with fail
  refine N1.out.mono ?_
  rintro e w1 ⟨g, rfl, q1, hg, b1⟩
  have B1 := Lib.hid b1
  have HG := Lib.hid hg
  have Q1 := Lib.hid q1
  clear b1 hg q1 N1
  go_wp2_with fail
  refine (P1.out _ _ Q1.out).mono ?_
  rintro e w2 ⟨rfl, q2, o2⟩
  have B2 := Lib.hid (low1 B1.out o2 HG.out)
  have Q2 := Lib.hid q2
  clear q2 o2 B1 Q1 P1
  go_wp2_with fail
  refine (P2.out _ _ Q2.out).mono ?_
  rintro e w3 ⟨rfl, q3, o3⟩
  have B3 := Lib.hid (low1 B2.out o3 HG.out)
  have Q3 := Lib.hid q3
  clear q3 o3 B2 Q2 P2
  go_wp2_with fail
  refine (P3.out _ _ Q3.out).mono ?_
  rintro e w4 ⟨rfl, q4, o4⟩
  have B4 := Lib.hid (low1 B3.out o4 HG.out)
  have Q4 := Lib.hid q4
  clear q4 o4 B3 Q3 P3
  go_wp2_with fail
  refine (P4.out _ _ Q4.out).mono ?_
  rintro e w5 ⟨rfl, q5, o5⟩
  have B5 := Lib.hid (low1 B4.out o5 HG.out)
  have Q5 := Lib.hid q5
  clear q5 o5 B4 Q4 P4
  go_wp2_with fail
  refine (P5.out _ _ Q5.out).mono ?_
  rintro e w6 ⟨rfl, q6, o6⟩
  go_upto_region 6 with fail
  have bb := Below.refl w6.heap.size w6 |>.alloc (Nat.le_refl _) (.cells #[.int .i64 1, .int .i64 0, .int .i64 0, .int .i64 0, .int .i64 0, .int .u8 0, .int .u8 0, .int .u8 0, .int .u8 0, .int .i64 0] 33)
  have B6' := low1 B5.out o6 HG.out
  have B6 := Lib.hid (B6'.trans (bb.mono B6'.size))
  have Q6 := Lib.hid (q6.below bb)
  have X6 := Lib.hid (heap_alloc_new w6 (.cells #[.int .i64 1, .int .i64 0, .int .i64 0, .int .i64 0, .int .i64 0, .int .u8 0, .int .u8 0, .int .u8 0, .int .u8 0, .int .i64 0] 33))
  clear bb B6' q6 o6 B5 Q5 P5
  generalize w6.alloc (.cells #[.int .i64 1, .int .i64 0, .int .i64 0, .int .i64 0, .int .i64 0, .int .u8 0, .int .u8 0, .int .u8 0, .int .u8 0, .int .i64 0] 33) = W6 at *
  generalize w6.heap.size = g6 at *
  go_wp2_with fail
  refine (P6.out _ _ Q6.out).mono ?_
  rintro e w7 ⟨rfl, b7⟩
  go_upto_region 7 with fail
  have bb := b7.alloc b7.size (.cells #[.int .i64 2, .int .i64 0, .int .i64 0, .int .i64 0, .int .i64 0, .int .u8 0, .int .u8 0, .int .u8 0, .int .u8 0, .int .i64 0] 33)
  have B7 := Lib.hid (B6.out.trans (bb.mono B6.out.size))
  have Q7 := Lib.hid (Q6.out.below bb)
  have X7 := Lib.hid (bBl bb X6.out)
  have Y7 := Lib.hid (heap_alloc_new w7 (.cells #[.int .i64 2, .int .i64 0, .int .i64 0, .int .i64 0, .int .i64 0, .int .u8 0, .int .u8 0, .int .u8 0, .int .u8 0, .int .i64 0] 33))
  clear bb b7 B6 Q6 X6 P6
  generalize w7.alloc (.cells #[.int .i64 2, .int .i64 0, .int .i64 0, .int .i64 0, .int .i64 0, .int .u8 0, .int .u8 0, .int .u8 0, .int .u8 0, .int .i64 0] 33) = W7 at *
  generalize w7.heap.size = g7 at *
  have x0 := rc1 X7.out 0
  have y0 := rc1 Y7.out 0
  go_wp2_with fail
  refine (P7.out _ _ Q7.out).mono ?_
  rintro e w8 ⟨rfl, b8⟩
  have B8 := Lib.hid (B7.out.trans (b8.mono B7.out.size))
  clear b8 B7 Q7 X7 Y7 x0 y0 P7
  go_wp2
  go_ret
  exact ⟨rfl, B8.out⟩

/-- A deed: its kind, and a request. -/
structure Dd where
  k : Int
  x : Q
def zD : Dd := ⟨0, zQ⟩
def KD : Rw.Kind Dd := ⟨fun d => .int .u8 d.k :: (qA d.x).toList, 11, by decide, fun _ => rfl, fun d u h => by
  simp [qA] at h
  rcases h with rfl | rfl | rfl | rfl | rfl | rfl | rfl | rfl | rfl | rfl | rfl <;> rfl, zD⟩
def dd (l : List Dd) (i : Nat) : Dd := l.getD i zD
theorem dd_at {w : World} {b off : Nat} {l : List Dd} (h : At KD w b off l) {i : Nat} (hi : i < l.length) : w.cell? ⟨b, off + i * 11, none⟩ = some (.int .u8 (dd l i).k) ∧ ∀ j v, (qA (dd l i).x).toList[j]? = some v → w.cell? ⟨b, off + i * 11 + 1 + j, none⟩ = some v :=
  ⟨h i hi 0 _ rfl, fun j v e => by rw [Nat.add_assoc, Nat.add_comm 1 j]; exact h i hi (j + 1) v (by show (_ :: (qA _).toList)[j + 1]? = _; rw [List.getElem?_cons_succ]; exact e)⟩

end Go.Proofs.Ytfbhmhgmebaoaaa.Qe
