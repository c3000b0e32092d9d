/- The two statements of layer 8, walked: each returns true and writes nothing that was there. -/
import Derived.Test.YtmikioafnbpciaaAdCode
import Derived.Test.YtmikioafnbpciaaSd
import Derived.Laws.StructEq
import Derived.ChangeKeysEq
namespace Go.Proofs.Ytmikioafnbpciaa.Ad
open Go.RowKit

theorem put_eq {w : World} {o f r : Int} {e : Ending} {w' : World} (h : PutPost w o f r e w') : e = .returned (.tuple #[pair (if good o f r then 64 * o + f else 0) (if good o f r then r else 0), .int .i64 (if good o f r then 0 else 1)]) ∧ Below w.heap.size w w' := by
  obtain ⟨h | h, b⟩ := h
  · rw [if_pos h.1, if_pos h.1, if_pos h.1]; exact ⟨h.2, b⟩
  · rw [if_neg h.1, if_neg h.1, if_neg h.1]; exact ⟨h.2, b⟩
theorem take_eq {w : World} {a b : Int} {e : Ending} {w' : World} (h : TakePost w a b e w') : e = .returned (.tuple #[addr (if 192 ≤ a then 0 else a / 64) (if 192 ≤ a then 0 else a % 64) (if 192 ≤ a then 0 else b), .int .i64 (if 192 ≤ a then 2 else 0)]) ∧ Below w.heap.size w w' := by
  obtain ⟨h | h, k⟩ := h
  · rw [if_neg (by omega), if_neg (by omega), if_neg (by omega), if_neg (by omega)]; exact ⟨h.2, k⟩
  · rw [if_pos h.1, if_pos h.1, if_pos h.1, if_pos h.1]; exact ⟨h.2, k⟩

/-- Equal pairs are equal to Go. -/
theorem eq_pair (a b : Int) (w : World) : (Op.equalIn 10000 24 (.agg #[.int .u8 a, .int .u8 b]) (.agg #[.int .u8 a, .int .u8 b])).run Try.prog w = .ok true w := by
  obtain ⟨j, hj⟩ : ∃ i, Try.prog.info? 5 = some i := Option.isSome_iff_exists.1 (by kernel_rfl)
  have hc : Try.prog.cellsOf 5 = 1 := by kernel_rfl
  rw [run_equalIn_array w 9999 _ _ Try.underlying24 hj, hc]
  simp [Op.eqItems, List.range, List.range.loop, part, go_sem]

set_option maxHeartbeats 1000000 in
theorem awake_any (w : World) : Calls Try.prog 9 #[] w fun e w' => e = .returned (.bool true) ∧ Below w.heap.size w w' := by
  have E1 := eq_pair 67 7
  have P1 : Hid (∀ w, Calls Try.prog 5 #[.agg #[.int .i64 1, .int .i64 3, .int .i64 7]] w fun e w' => e = .returned (.tuple #[.agg #[.int .u8 67, .int .u8 7], .int .i64 0]) ∧ Below w.heap.size w w') := fun w => (put_any w 1 3 7).mono fun e w' h => put_eq h
  have P2 : Hid (∀ w, Calls Try.prog 7 #[.agg #[.int .u8 67, .int .u8 7]] w fun e w' => e = .returned (.tuple #[.agg #[.int .i64 1, .int .i64 3, .int .i64 7], .int .i64 0]) ∧ Below w.heap.size w w') := fun w => (take_any w 67 7 (by omega) (by omega) (by omega) (by omega)).mono fun e w' h => take_eq h
  have P3 : Hid (∀ w, Calls Try.prog 7 #[.agg #[.int .u8 192, .int .u8 0]] w fun e w' => e = .returned (.tuple #[.agg #[.int .i64 0, .int .i64 0, .int .i64 0], .int .i64 2]) ∧ Below w.heap.size w w') := fun w => (take_any w 192 0 (by omega) (by omega) (by omega) (by omega)).mono fun e w' h => take_eq h
  go_enter Try.func9, Try.ntmps9
  go_wp2_with fail
  refine (P1.out _).mono ?_
  rintro e w1 ⟨rfl, b1⟩
  have z1 := b1.size
  have B1 := Lib.hid (b1.alloc b1.size (.cells #[.int .u8 67, .int .u8 7] 24))
  have c0 : (w1.alloc (.cells #[.int .u8 67, .int .u8 7] 24)).cell? ⟨w1.heap.size, 0, none⟩ = some (.int .u8 67) := by go_simp
  have c1 : (w1.alloc (.cells #[.int .u8 67, .int .u8 7] 24)).cell? ⟨w1.heap.size, 1, none⟩ = some (.int .u8 7) := by go_simp
  clear b1 P1
  go_wp2_with fail
  refine (P2.out _).mono ?_
  rintro e w2 ⟨rfl, b2⟩
  have B2 := Lib.hid (B1.out.trans (b2.mono B1.out.size))
  have d0 := (b2.cell (World.block_lt_of_cell? _ _ c0)).trans c0
  have d1 := (b2.cell (World.block_lt_of_cell? _ _ c1)).trans c1
  clear b2 P2 c0 c1 B1
  have z2 := B2.out.size
  have bb := (Below.refl w2.heap.size w2).alloc (Nat.le_refl _) (.cells #[.int .i64 1, .int .i64 3, .int .i64 7] 23)
  have B3 := Lib.hid (B2.out.trans (bb.mono z2))
  have c0 := (bb.cell (World.block_lt_of_cell? _ _ d0)).trans d0
  have c1 := (bb.cell (World.block_lt_of_cell? _ _ d1)).trans d1
  have e0 : (w2.alloc (.cells #[.int .i64 1, .int .i64 3, .int .i64 7] 23)).cell? ⟨w2.heap.size, 0, none⟩ = some (.int .i64 1) := by go_simp
  have e1 : (w2.alloc (.cells #[.int .i64 1, .int .i64 3, .int .i64 7] 23)).cell? ⟨w2.heap.size, 1, none⟩ = some (.int .i64 3) := by go_simp
  have e2 : (w2.alloc (.cells #[.int .i64 1, .int .i64 3, .int .i64 7] 23)).cell? ⟨w2.heap.size, 2, none⟩ = some (.int .i64 7) := by go_simp
  clear bb d0 d1
  go_wp2_with fail
  refine (P3.out _).mono ?_
  rintro e w3 ⟨rfl, b3⟩
  have B4 := Lib.hid (B3.out.trans (b3.mono B3.out.size))
  have d0 := (b3.cell (World.block_lt_of_cell? _ _ c0)).trans c0
  have d1 := (b3.cell (World.block_lt_of_cell? _ _ c1)).trans c1
  have f0 := (b3.cell (World.block_lt_of_cell? _ _ e0)).trans e0
  have f1 := (b3.cell (World.block_lt_of_cell? _ _ e1)).trans e1
  have f2 := (b3.cell (World.block_lt_of_cell? _ _ e2)).trans e2
  have z4 := B4.out.size
  have l1 := World.block_lt_of_cell? _ _ d0
  have l2 := World.block_lt_of_cell? _ _ f0
  simp only at l1 l2
  clear b3 P3 c0 c1 e0 e1 e2
  go_wp2
  go_ret
  exact ⟨rfl, B4.out.alloc z4 _⟩

/-- Block g holds these cells. -/
def Blk (w : World) (g : Nat) (cs : List Value) : Prop := ∀ k u, cs[k]? = some u → w.cell? ⟨g, k, none⟩ = some u
theorem Blk.below {w w' : World} {g : Nat} {cs : List Value} (h : Blk w g cs) (hb : Below w.heap.size w w') : Blk w' g cs := fun k u hu => (hb.cell (World.block_lt_of_cell? _ _ (h k u hu))).trans (h k u hu)
theorem blk2 {w : World} {g : Nat} {u v : Value} (h0 : w.cell? ⟨g, 0, none⟩ = some u) (h1 : w.cell? ⟨g, 1, none⟩ = some v) : Blk w g [u, v] := fun k x hx => by
  match k, hx with
  | 0, hx => simp at hx; subst hx; exact h0
  | 1, hx => simp at hx; subst hx; exact h1
  | k + 2, hx => simp at hx
theorem blk3 {w : World} {g : Nat} {u v x : Value} (h0 : w.cell? ⟨g, 0, none⟩ = some u) (h1 : w.cell? ⟨g, 1, none⟩ = some v) (h2 : w.cell? ⟨g, 2, none⟩ = some x) : Blk w g [u, v, x] := fun k y hy => by
  match k, hy with
  | 0, hy => simp at hy; subst hy; exact h0
  | 1, hy => simp at hy; subst hy; exact h1
  | 2, hy => simp at hy; subst hy; exact h2
  | k + 3, hy => simp at hy

set_option maxHeartbeats 4000000 in
theorem puts_any (w : World) (o f r a b : Int) (a0 : 0 ≤ a) (a1 : a ≤ 255) (b0 : 0 ≤ b) (b1 : b ≤ 255) :
    Calls Try.prog 3 #[addr o f r, pair a b] w fun e w' => e = .returned (.bool true) ∧ Below w.heap.size w w' := by
  have P1 := fun w => (put_any w o f r).mono fun e w' h => put_eq h
  have P2 := fun w => (rput_any w o f r).mono fun e w' h => put_eq h
  have P3 := fun w => (take_any w a b a0 a1 b0 b1).mono fun e w' h => take_eq h
  have P4 := fun w => (rtake_any w a b a0 a1 b0 b1).mono fun e w' h => take_eq h
  have G1 := fun w => good_any w o f r
  have G2 := fun w => rgood_any w o f r
  generalize (if good o f r then 64 * o + f else 0) = x1 at *
  generalize (if good o f r then r else 0) = x2 at *
  generalize (if good o f r then (0 : Int) else 1) = x3 at *
  generalize (if 192 ≤ a then 0 else a / 64) = y1 at *
  generalize (if 192 ≤ a then 0 else a % 64) = y2 at *
  generalize (if 192 ≤ a then 0 else b) = y3 at *
  generalize (if 192 ≤ a then (2 : Int) else 0) = y4 at *
  generalize goodB o f r = gb at *
  unfold addr pair at *
  have H1 := Lib.hid P1
  have H2 := Lib.hid P2
  have H3 := Lib.hid P3
  have H4 := Lib.hid P4
  have K1 := Lib.hid G1
  have K2 := Lib.hid G2
  clear P1 P2 P3 P4 G1 G2
  have E1 := eq_pair x1 x2
  have bb := ((Below.refl w.heap.size w).alloc (Nat.le_refl _) (.cells #[.int .i64 o, .int .i64 f, .int .i64 r] 23)).alloc (by simp) (.cells #[.int .u8 a, .int .u8 b] 24)
  have B0 := Lib.hid bb
  have A0 : Hid (Blk ((w.alloc (.cells #[.int .i64 o, .int .i64 f, .int .i64 r] 23)).alloc (.cells #[.int .u8 a, .int .u8 b] 24)) w.heap.size [.int .i64 o, .int .i64 f, .int .i64 r]) := blk3 (by go_simp) (by go_simp) (by go_simp)
  have C0 : Hid (Blk ((w.alloc (.cells #[.int .i64 o, .int .i64 f, .int .i64 r] 23)).alloc (.cells #[.int .u8 a, .int .u8 b] 24)) (w.heap.size + 1) [.int .u8 a, .int .u8 b]) := blk2 (by go_simp) (by go_simp)
  clear bb
  go_enter Try.func3, Try.ntmps3
  go_wp2_with fail
  refine (H1.out _).mono ?_
  rintro e w1 ⟨rfl, b1⟩
  have bb := b1.alloc b1.size (.cells #[.int .u8 x1, .int .u8 x2] 24)
  have B1 := Lib.hid (B0.out.trans (bb.mono B0.out.size))
  have A1 := Lib.hid (A0.out.below bb)
  have C1 := Lib.hid (C0.out.below bb)
  have X1 : Hid (Blk (w1.alloc (.cells #[.int .u8 x1, .int .u8 x2] 24)) w1.heap.size [.int .u8 x1, .int .u8 x2]) := blk2 (by go_simp) (by go_simp)
  have p0 := A1.out 0 _ rfl
  have p1 := A1.out 1 _ rfl
  have p2 := A1.out 2 _ rfl
  clear b1 bb B0 A0 C0
  go_wp2_with fail
  refine (H2.out _).mono ?_
  rintro e w2 ⟨rfl, b2⟩
  have bb := b2.alloc b2.size (.cells #[.int .u8 x1, .int .u8 x2] 24)
  have B2 := Lib.hid (B1.out.trans (bb.mono B1.out.size))
  have A2 := Lib.hid (A1.out.below bb)
  have C2 := Lib.hid (C1.out.below bb)
  have X2 := Lib.hid (X1.out.below bb)
  have Y2 : Hid (Blk (w2.alloc (.cells #[.int .u8 x1, .int .u8 x2] 24)) w2.heap.size [.int .u8 x1, .int .u8 x2]) := blk2 (by go_simp) (by go_simp)
  clear b2 bb B1 A1 C1 X1 p0 p1 p2
  have p0 := C2.out 0 _ rfl
  have p1 := C2.out 1 _ rfl
  go_wp2_with fail
  refine (H3.out _).mono ?_
  rintro e w3 ⟨rfl, b3⟩
  have bb := b3.alloc b3.size (.cells #[.int .i64 y1, .int .i64 y2, .int .i64 y3] 23)
  have B3 := Lib.hid (B2.out.trans (bb.mono B2.out.size))
  have A3 := Lib.hid (A2.out.below bb)
  have C3 := Lib.hid (C2.out.below bb)
  have X3 := Lib.hid (X2.out.below bb)
  have Y3 := Lib.hid (Y2.out.below bb)
  have U3 : Hid (Blk (w3.alloc (.cells #[.int .i64 y1, .int .i64 y2, .int .i64 y3] 23)) w3.heap.size [.int .i64 y1, .int .i64 y2, .int .i64 y3]) := blk3 (by go_simp) (by go_simp) (by go_simp)
  clear b3 bb B2 A2 C2 X2 Y2 p0 p1
  have p0 := C3.out 0 _ rfl
  have p1 := C3.out 1 _ rfl
  go_wp2_with fail
  refine (H4.out _).mono ?_
  rintro e w4 ⟨rfl, b4⟩
  have bb := b4.alloc b4.size (.cells #[.int .i64 y1, .int .i64 y2, .int .i64 y3] 23)
  have B4 := Lib.hid (B3.out.trans (bb.mono B3.out.size))
  have A4 := Lib.hid (A3.out.below bb)
  have X4 := Lib.hid (X3.out.below bb)
  have Y4 := Lib.hid (Y3.out.below bb)
  have U4 := Lib.hid (U3.out.below bb)
  have V4 : Hid (Blk (w4.alloc (.cells #[.int .i64 y1, .int .i64 y2, .int .i64 y3] 23)) w4.heap.size [.int .i64 y1, .int .i64 y2, .int .i64 y3]) := blk3 (by go_simp) (by go_simp) (by go_simp)
  clear b4 bb B3 A3 C3 X3 Y3 U3 p0 p1
  go_wp2_with fail
  generalize w4.alloc (.cells #[.int .i64 y1, .int .i64 y2, .int .i64 y3] 23) = W at *
  generalize w.heap.size + 1 = g0 at *
  have p0 := Sd.cell_by (A4.out 0 _ rfl)
  have p1 := Sd.cell_by (A4.out 1 _ rfl)
  have p2 := Sd.cell_by (A4.out 2 _ rfl)
  have q0 := Sd.cell_by (X4.out 0 _ rfl)
  have q1 := Sd.cell_by (X4.out 1 _ rfl)
  have r0 := Sd.cell_by (Y4.out 0 _ rfl)
  have r1 := Sd.cell_by (Y4.out 1 _ rfl)
  have s0 := Sd.cell_by (U4.out 0 _ rfl)
  have s1 := Sd.cell_by (U4.out 1 _ rfl)
  have s2 := Sd.cell_by (U4.out 2 _ rfl)
  have t0 := Sd.cell_by (V4.out 0 _ rfl)
  have t1 := Sd.cell_by (V4.out 1 _ rfl)
  have t2 := Sd.cell_by (V4.out 2 _ rfl)
  refine Sd.start [(true, 0), (false, 1), (false, 2), (false, 4), (true, 3), (true, 5), (false, 6), (false, 7), (false, 8), (false, 9), (false, 10), (false, 11), (false, 12), (false, 13), (false, 14), (false, 15), (false, 16), (false, 17), (false, 18), (false, 19), (false, 20), (false, 21), (false, 22), (false, 23), (false, 24), (false, 25), (false, 26), (false, 27), (false, 28)] (by kernel_rfl) (by kernel_rfl) (by kernel_rfl) ?_
  dsimp only [Sd.picks, List.getElem?_cons_succ, List.getElem?_cons_zero]
  refine Sd.call (by rfl) (fun K hK => ?_)
  go_simp
  refine (awake_any _).mono ?_
  rintro e w5 ⟨rfl, b5⟩
  have C5 := Lib.hid (Below.trans ((Below.refl W.heap.size W).drew) b5)
  refine hK _ _ (Sd.Cl.of C5.out) ?_
  clear hK K b5
  repeat (refine Sd.lit ?_; quiet_step (fail); refine wpQuiet_nil ?_)
  refine Sd.call (by rfl) (fun K hK => ?_)
  go_simp
  refine (K1.out _).mono ?_
  rintro e w6 ⟨rfl, b6⟩
  have C6 := Lib.hid (C5.out.trans (b6.mono C5.out.size))
  refine hK _ _ (Sd.Cl.of C6.out) ?_
  clear hK K b6
  refine Sd.call (by rfl) (fun K hK => ?_)
  go_simp
  refine (K2.out _).mono ?_
  rintro e w7 ⟨rfl, b7⟩
  have C7 := Lib.hid (C6.out.trans (b7.mono C6.out.size))
  refine hK _ _ (Sd.Cl.of C7.out) ?_
  clear hK K b7
  repeat (refine Sd.lit ?_; quiet_step (fail); refine wpQuiet_nil ?_)
  refine Sd.done ?_
  go_wp2
  go_ret
  exact ⟨ret_bool (by cases gb <;> simp), B4.out.trans (C7.out.mono B4.out.size)⟩

set_option maxHeartbeats 4000000 in
theorem round_any (w : World) (o f r a b : Int) (a0 : 0 ≤ a) (a1 : a ≤ 255) (b0 : 0 ≤ b) (b1 : b ≤ 255) :
    Calls Try.prog 4 #[addr o f r, pair a b] w fun e w' => e = .returned (.bool true) ∧ Below w.heap.size w w' := by
  have T2 : Hid (∀ w, Calls Try.prog 7 #[.agg #[.int .u8 a, .int .u8 b]] w fun e w' => e = .returned (.tuple #[.agg #[.int .i64 (if 192 ≤ a then 0 else a / 64), .int .i64 (if 192 ≤ a then 0 else a % 64), .int .i64 (if 192 ≤ a then 0 else b)], .int .i64 (if 192 ≤ a then 2 else 0)]) ∧ Below w.heap.size w w') :=
    fun w => (take_any w a b a0 a1 b0 b1).mono fun e w' h => take_eq h
  have Q2 : Hid (a < 192 → ∀ w, Calls Try.prog 5 #[.agg #[.int .i64 (a / 64), .int .i64 (a % 64), .int .i64 b]] w fun e w' => e = .returned (.tuple #[.agg #[.int .u8 a, .int .u8 b], .int .i64 0]) ∧ Below w.heap.size w w') := fun h w =>
    (put_any w (a / 64) (a % 64) b).mono fun e w' h => by
      have k := put_eq h
      have g : good (a / 64) (a % 64) b := ⟨by omega, by omega, by omega, by omega, by omega, by omega⟩
      rw [if_pos g, if_pos g, if_pos g, show 64 * (a / 64) + a % 64 = a by omega] at k
      exact k
  have G2 : Hid (a < 192 → ∀ w, Calls Try.prog 10 #[.agg #[.int .i64 (a / 64), .int .i64 (a % 64), .int .i64 b]] w fun e w' => e = .returned (.bool true) ∧ Below w.heap.size w w') := fun h w =>
    at_bool (decide_eq_true (show good (a / 64) (a % 64) b from ⟨by omega, by omega, by omega, by omega, by omega, by omega⟩)) (good_any w (a / 64) (a % 64) b)
  have P1 : Hid (∀ w, Calls Try.prog 5 #[.agg #[.int .i64 o, .int .i64 f, .int .i64 r]] w fun e w' => e = .returned (.tuple #[.agg #[.int .u8 (if good o f r then 64 * o + f else 0), .int .u8 (if good o f r then r else 0)], .int .i64 (if good o f r then 0 else 1)]) ∧ Below w.heap.size w w') :=
    fun w => (put_any w o f r).mono fun e w' h => put_eq h
  have T1 : Hid (good o f r → ∀ w, Calls Try.prog 7 #[.agg #[.int .u8 (64 * o + f), .int .u8 r]] w fun e w' => e = .returned (.tuple #[.agg #[.int .i64 o, .int .i64 f, .int .i64 r], .int .i64 0]) ∧ Below w.heap.size w w') := fun g w => by
    obtain ⟨g1, g2, g3, g4, g5, g6⟩ := g
    refine (take_any w (64 * o + f) r (by omega) (by omega) (by omega) (by omega)).mono fun e w' h => ?_
    have k := take_eq h
    rw [if_neg (by omega), if_neg (by omega), if_neg (by omega), if_neg (by omega), show (64 * o + f) / 64 = o by omega, show (64 * o + f) % 64 = f by omega] at k
    exact k
  have E1 := eq_pair a b
  have bb := ((Below.refl w.heap.size w).alloc (Nat.le_refl _) (.cells #[.int .i64 o, .int .i64 f, .int .i64 r] 23)).alloc (by simp) (.cells #[.int .u8 a, .int .u8 b] 24)
  have B0 := Lib.hid bb
  have A0 : Hid (Blk ((w.alloc (.cells #[.int .i64 o, .int .i64 f, .int .i64 r] 23)).alloc (.cells #[.int .u8 a, .int .u8 b] 24)) w.heap.size [.int .i64 o, .int .i64 f, .int .i64 r]) := blk3 (by go_simp) (by go_simp) (by go_simp)
  have C0 : Hid (Blk ((w.alloc (.cells #[.int .i64 o, .int .i64 f, .int .i64 r] 23)).alloc (.cells #[.int .u8 a, .int .u8 b] 24)) (w.heap.size + 1) [.int .u8 a, .int .u8 b]) := blk2 (by go_simp) (by go_simp)
  clear bb
  unfold addr pair
  by_cases hg : good o f r
  case' pos =>
    have P := Lib.hid (fun w => P1.out w)
    simp only [if_pos hg] at P
    have T := Lib.hid (T1.out hg)
    clear P1 T1 hg
    generalize 64 * o + f = x at *
    go_enter Try.func4, Try.ntmps4
    go_wp2_with fail
    refine (P.out _).mono ?_
    rintro e w1 ⟨rfl, b1⟩
    have bb := b1.alloc b1.size (.cells #[.int .u8 x, .int .u8 r] 24)
    have B1 := Lib.hid (B0.out.trans (bb.mono B0.out.size))
    have A1 := Lib.hid (A0.out.below bb)
    have C1 := Lib.hid (C0.out.below bb)
    clear b1 bb B0 A0 C0 P
    go_wp2_with fail
    refine (T.out _).mono ?_
    rintro e w2 ⟨rfl, b2⟩
    have bb := b2.alloc b2.size (.cells #[.int .i64 o, .int .i64 f, .int .i64 r] 23)
    have B2 := Lib.hid (B1.out.trans (bb.mono B1.out.size))
    have A2 := Lib.hid (A1.out.below bb)
    have C2 := Lib.hid (C1.out.below bb)
    have p0 := A2.out 0 _ rfl
    have p1 := A2.out 1 _ rfl
    have p2 := A2.out 2 _ rfl
    have p3 := C2.out 0 _ rfl
    have p4 := C2.out 1 _ rfl
    clear b2 bb B1 A1 C1 T
    go_wp2_with fail
    generalize w2.alloc (.cells #[.int .i64 o, .int .i64 f, .int .i64 r] 23) = W at *
    clear p0 p1 p2 p3 p4 A2
  case' neg =>
    have P := Lib.hid (fun w => P1.out w)
    simp only [if_neg hg] at P
    clear P1 T1 hg
    go_enter Try.func4, Try.ntmps4
    go_wp2_with fail
    refine (P.out _).mono ?_
    rintro e w1 ⟨rfl, b1⟩
    have bb := b1.alloc b1.size (.cells #[.int .u8 0, .int .u8 0] 24)
    have B2 := Lib.hid (B0.out.trans (bb.mono B0.out.size))
    have C2 := Lib.hid (C0.out.below bb)
    have p3 := C2.out 0 _ rfl
    have p4 := C2.out 1 _ rfl
    clear b1 bb B0 A0 C0 P
    go_wp2_with fail
    generalize w1.alloc (.cells #[.int .u8 0, .int .u8 0] 24) = W at *
    clear p3 p4
  all_goals
    by_cases h : 192 ≤ a
    · simp only [if_pos h] at T2
      refine (T2.out _).mono ?_
      rintro e w3 ⟨rfl, b3⟩
      have bb := b3.alloc b3.size (.cells #[.int .i64 0, .int .i64 0, .int .i64 0] 23)
      have B3 := Lib.hid (B2.out.trans (bb.mono B2.out.size))
      have U3 : Hid (Blk (w3.alloc (.cells #[.int .i64 0, .int .i64 0, .int .i64 0] 23)) w3.heap.size [.int .i64 0, .int .i64 0, .int .i64 0]) := blk3 (by go_simp) (by go_simp) (by go_simp)
      clear b3 bb B2 C2 T2 Q2 G2
      go_wp2_with fail
      refine (awake_any _).mono ?_
      rintro e w4 ⟨rfl, b4⟩
      have B4 := Lib.hid (B3.out.trans (b4.mono B3.out.size))
      have U4 := Lib.hid (U3.out.below b4)
      have p0 := U4.out 0 _ rfl
      have p1 := U4.out 1 _ rfl
      have p2 := U4.out 2 _ rfl
      clear b4 U3 B3
      go_wp2
      go_ret
      exact ⟨rfl, B4.out⟩
    · simp only [if_neg h] at T2
      have Q := Lib.hid (Q2.out (by omega))
      have G := Lib.hid (G2.out (by omega))
      clear Q2 G2
      generalize a / 64 = y1 at *
      generalize a % 64 = y2 at *
      refine (T2.out _).mono ?_
      rintro e w3 ⟨rfl, b3⟩
      have bb := b3.alloc b3.size (.cells #[.int .i64 y1, .int .i64 y2, .int .i64 b] 23)
      have B3 := Lib.hid (B2.out.trans (bb.mono B2.out.size))
      have C3 := Lib.hid (C2.out.below bb)
      have U3 : Hid (Blk (w3.alloc (.cells #[.int .i64 y1, .int .i64 y2, .int .i64 b] 23)) w3.heap.size [.int .i64 y1, .int .i64 y2, .int .i64 b]) := blk3 (by go_simp) (by go_simp) (by go_simp)
      clear b3 bb B2 C2 T2
      go_wp2_with fail
      refine (Q.out _).mono ?_
      rintro e w4 ⟨rfl, b4⟩
      have bb := b4.alloc b4.size (.cells #[.int .u8 a, .int .u8 b] 24)
      have B4 := Lib.hid (B3.out.trans (bb.mono B3.out.size))
      have C4 := Lib.hid (C3.out.below bb)
      have U4 := Lib.hid (U3.out.below bb)
      have V4 : Hid (Blk (w4.alloc (.cells #[.int .u8 a, .int .u8 b] 24)) w4.heap.size [.int .u8 a, .int .u8 b]) := blk2 (by go_simp) (by go_simp)
      clear b4 bb B3 C3 U3 Q
      go_wp2_with fail
      refine (awake_any _).mono ?_
      rintro e w5 ⟨rfl, b5⟩
      have B5 := Lib.hid (B4.out.trans (b5.mono B4.out.size))
      have C5 := Lib.hid (C4.out.below b5)
      have U5 := Lib.hid (U4.out.below b5)
      have V5 := Lib.hid (V4.out.below b5)
      have p0 := U5.out 0 _ rfl
      have p1 := U5.out 1 _ rfl
      have p2 := U5.out 2 _ rfl
      clear b5 B4 C4 U4 V4
      go_wp2_with fail
      refine (G.out _).mono ?_
      rintro e w6 ⟨rfl, b6⟩
      have B6 := Lib.hid (B5.out.trans (b6.mono B5.out.size))
      have C6 := Lib.hid (C5.out.below b6)
      have V6 := Lib.hid (V5.out.below b6)
      have q0 := C6.out 0 _ rfl
      have q1 := C6.out 1 _ rfl
      have r0 := V6.out 0 _ rfl
      have r1 := V6.out 1 _ rfl
      clear b6 B5 C5 V5 U5 p0 p1 p2
      go_wp2
      go_ret
      exact ⟨rfl, B6.out⟩

end Go.Proofs.Ytmikioafnbpciaa.Ad
