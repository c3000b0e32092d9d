/- The document's own Put, Take and Turn of layer 3. -/
import Derived.Test.YtfoaneckegkhcaaUaTake
import Derived.Test.YtfoaneckegkhcaaUaTurn
namespace Go.Proofs.Ytfoaneckegkhcaa.Ua
open Go.RowKit

theorem div_step (b : Int) (k : Nat) : b / 2 ^ (k + 1) = b / 2 ^ k / 2 := by
  rw [pow_succ_int, Int.ediv_ediv_of_nonneg (Int.le_of_lt (Int.pow_pos (by decide)))]
theorem cnt_step (b : Int) (k : Nat) (h : k < 8) : (cnt (put b 9) (k + 1) : Int) = cnt (put b 9) k + b / 2 ^ k % 2 := by
  rw [cnt, bit_mod]
  have : put b 9 (k + 1) = bit b k := by unfold put; rw [if_pos (by omega)]; rfl
  rw [this]
  split <;> simp

theorem val_step {F : Nat → Bool} {k : Nat} (h : F (k + 1) = true) : (val F (k + 1) : Int) = val F k + (2 ^ k : Nat) := by rw [val, h]; simp
theorem val_same {F : Nat → Bool} {k : Nat} (h : F (k + 1) = false) : (val F (k + 1) : Int) = val F k := by rw [val, h]; simp
theorem cnt_one {F : Nat → Bool} {k : Nat} (h : F (k + 1) = true) : (cnt F (k + 1) : Int) = cnt F k + 1 := by rw [cnt, h]; simp
theorem cnt_same {F : Nat → Bool} {k : Nat} (h : F (k + 1) = false) : (cnt F (k + 1) : Int) = cnt F k := by rw [cnt, h]; simp
theorem two_pow_le {k : Nat} (h : k ≤ 8) : 1 ≤ 2 ^ k ∧ 2 ^ k ≤ 256 := ⟨Nat.one_le_two_pow, Nat.pow_le_pow_right (n := 2) (by omega) h⟩
/-- The parity's bit, as the document's own Put has it. -/
theorem nine (b : Int) (odd : Bool) (c : Nat) (h : c = cnt (put b 9) 8) :
    (if odd then ((c : Int) % 2 == 0) else ((c : Int) % 2 == 1)) = (par (put b 9) 9 != odd) := by
  rw [par_put9, ← cnt_par, ← h]
  have e0 : ((c : Int) % 2 == 0) = decide (c % 2 = 0) := by show decide ((c : Int) % 2 = 0) = _; rw [decide_eq_decide]; omega
  have e1 : ((c : Int) % 2 == 1) = decide (c % 2 = 1) := by show decide ((c : Int) % 2 = 1) = _; rw [decide_eq_decide]; omega
  rw [e0, e1]
  rcases (by omega : c % 2 = 0 ∨ c % 2 = 1) with e | e <;> cases odd <;> simp [e]

set_option maxHeartbeats 400000 in
theorem rput_any (w : World) (b : Int) (odd : Bool) (h0 : 0 ≤ b) (h1 : b ≤ 255) : Calls Try.prog 14 #[.int .u8 b, .bool odd] w fun e w' => e = .returned (.agg (arr (frm b odd))) ∧ Below w.heap.size w w' := by
  have T0 := Lib.hid (two_new w (put b 1) (fun i _ => (put_1 b i).symm))
  go_enter Try.func14, Try.ntmps14
  go_wp2
  go_loopw [6, 7, 8] (fun n c i wr => ∃ k : Nat, k ≤ 8 ∧ i = .int .i64 (k + 1 : Nat) ∧ n = .int .i64 (b / 2 ^ k) ∧ c = .int .i64 (cnt (put b 9) k : Nat) ∧ Hid (Two w wr (put b (k + 1)))) (fun _ _ i _ => 9 - (intOf i).toNat)
  case atStart => exact ⟨0, by omega, rfl, by rw [Int.pow_zero, Int.ediv_one], rfl, T0⟩
  case round =>
    obtain ⟨k, hk, rfl, rfl, rfl, T⟩ := hrel
    have n0 : 0 ≤ b / 2 ^ k := Int.ediv_nonneg h0 (Int.le_of_lt (Int.pow_pos (by decide)))
    have n1 : b / 2 ^ k ≤ 255 := Int.le_trans (Int.ediv_le_self _ h0) h1
    have q := cnt_le (put b 9) k
    by_cases hlt : k < 8
    · have c := T.out.2.1.cell (k + 1) (by omega)
      have f := T.out.2.1.frozen (k + 1)
      have CS := Lib.hid (cnt_step b k hlt)
      have DS := Lib.hid (div_step b k)
      have PS : Hid (∀ i, upd (put b (k + 1)) (k + 1) (decide (b / 2 ^ k % 2 = 1)) i = put b (k + 1 + 1) i) := put_step b (k + 1) (by omega)
      generalize cnt (put b 9) k = cc at *
      generalize b / 2 ^ k = N at *
      go_wp2
      go_roundw
      case rel => exact ⟨k + 1, by omega, by go_num, by rw [DS.out], by rw [CS.out], (T.out.set_ (k + 1) (by omega) _).to (fun i _ => PS.out i)⟩
      case measure => simp [intOf]; omega
    · obtain rfl : k = 8 := by omega
      have c9 := T.out.2.1.cell 9 (by omega)
      have c10 := T.out.2.1.cell 10 (by omega)
      have f9 := T.out.2.1.frozen 9
      have f10 := T.out.2.1.frozen 10
      have NN := Lib.hid (nine b odd (cnt (put b 9) 8) rfl)
      generalize cnt (put b 9) 8 = cc at *
      have h9 : 9 < 11 := by omega
      have h10 : 10 < 11 := by omega
      cases odd
      all_goals
        go_wp2_with ((with_reducible refine copy_frame (o := ⟨some 44, _, _, _, _, _⟩) rfl rfl _ _ _ rfl rfl rfl _ _ _ _ ?_ ?_ ?_ ((T.out.set_ 9 h9 _).set_ 10 h10 _).frame ((T.out.set_ 9 h9 _).set_ 10 h10 _).res ?_); (exact rfl); (exact rfl); (exact rfl))
        all_goals
          refine bodyPost_ret (results_frame rfl _ _ _ _ rfl (((T.out.set_ 9 h9 _).set_ 10 h10 _).1.row _)) rfl ⟨?_, ?_⟩
          · refine congrArg (fun x => Ending.returned (.agg (arr (upd (upd (put b 9) 9 x) 10 true)))) (Eq.trans ?_ NN.out)
            first
              | rfl
              | (simp only [if_true]; refine Eq.symm ?_; show decide ((cc : Int) % 2 = 0) = true; exact decide_eq_true (by omega))
          · exact below_setRow ((T.out.set_ 9 h9 _).set_ 10 h10 _).2.2 _ _ (Nat.le_refl _)
/-- What of a frame has been copied, and turned, below bit k. -/
def rt (F : Nat → Bool) (m : Int) (k i : Nat) : Bool := if i < k then F i != bit m i else false
theorem rt_0 (F : Nat → Bool) (m : Int) (i : Nat) : false = rt F m 0 i := by unfold rt; rw [if_neg (by omega)]
theorem rt_all (F : Nat → Bool) (m : Int) (i : Nat) (h : i < 11) : rt F m 11 i = turn F m 11 i := by unfold rt turn; rw [if_pos h, if_pos h]
theorem rt_yes {F : Nat → Bool} {m : Int} {k : Nat} (h : bit m k = true) (i : Nat) : upd (upd (rt F m k) k (F k)) k (!F k) i = rt F m (k + 1) i := by
  unfold upd rt
  by_cases e : i = k
  · subst e; rw [if_pos rfl, if_pos (by omega), h]; simp
  · rw [if_neg e, if_neg e]
    by_cases c : i < k
    · rw [if_pos c, if_pos (by omega)]
    · rw [if_neg c, if_neg (by omega)]
theorem rt_no {F : Nat → Bool} {m : Int} {k : Nat} (h : bit m k = false) (i : Nat) : upd (rt F m k) k (F k) i = rt F m (k + 1) i := by
  unfold upd rt
  by_cases e : i = k
  · subst e; rw [if_pos rfl, if_pos (by omega), h]; simp
  · rw [if_neg e]
    by_cases c : i < k
    · rw [if_pos c, if_pos (by omega)]
    · rw [if_neg c, if_neg (by omega)]
/-- The three blocks of a frame that is turned into a new one. -/
def Own3 (w wr : World) (F G : Nat → Bool) : Prop := Row wr w.heap.size F ∧ Row wr (w.heap.size + 1) no ∧ Row wr (w.heap.size + 1 + 1) G ∧ Below w.heap.size w wr
theorem own3_new (w : World) (F G : Nat → Bool) (h : ∀ i, i < 11 → false = G i) : Own3 w (((w.alloc (.cells (arr F) 41)).alloc (.cells (arr no) 41)).alloc (.cells (arr no) 41)) F G := by
  obtain ⟨h1, h2, h3⟩ := own2_new w F
  refine ⟨h1.alloc _, h2.alloc _, ?_, h3.alloc (by simp; omega) _⟩
  have := Row.new ((w.alloc (.cells (arr F) 41)).alloc (.cells (arr no) 41)) no
  have e : ((w.alloc (.cells (arr F) 41)).alloc (.cells (arr no) 41)).heap.size = w.heap.size + 1 + 1 := by simp
  rw [e] at this
  exact this.to h
theorem Own3.set_ {w wr : World} {F G : Nat → Bool} (h : Own3 w wr F G) (k : Nat) (hk : k < 11) (x : Bool) : Own3 w (wr.setCell ⟨w.heap.size + 1 + 1, k, none⟩ (.bool x)) F (upd G k x) :=
  ⟨h.1.far (by simp; omega) _, h.2.1.far (by simp) _, h.2.2.1.set_ k hk x, h.2.2.2.setCell (by simp; omega) _⟩
theorem Own3.to {w wr : World} {F G H : Nat → Bool} (h : Own3 w wr F G) (e : ∀ i, i < 11 → G i = H i) : Own3 w wr F H := ⟨h.1, h.2.1, h.2.2.1.to e, h.2.2.2⟩

/-- A number as an unsigned one. -/
def un (m : Int) : Int := IntKind.u64.wrap m
theorem un_in (m : Int) : 0 ≤ un m ∧ un m ≤ 18446744073709551615 := by unfold un; rw [IntKind.wrap_u64]; omega
theorem un_bit (m : Int) (k : Nat) (h : k < 11) : (un m / 2 ^ k % 2 == 1) = bit m k := by
  show decide (un m / 2 ^ k % 2 = 1) = decide (m / 2 ^ k % 2 = 1)
  rw [decide_eq_decide]
  unfold un
  rw [IntKind.wrap_u64]
  rcases (by omega : k = 0 ∨ k = 1 ∨ k = 2 ∨ k = 3 ∨ k = 4 ∨ k = 5 ∨ k = 6 ∨ k = 7 ∨ k = 8 ∨ k = 9 ∨ k = 10) with rfl | rfl | rfl | rfl | rfl | rfl | rfl | rfl | rfl | rfl | rfl <;> simp <;> omega

end Go.Proofs.Ytfoaneckegkhcaa.Ua
