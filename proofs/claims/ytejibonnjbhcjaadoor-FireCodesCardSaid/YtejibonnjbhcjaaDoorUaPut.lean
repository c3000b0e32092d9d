/- uart.Put: a byte's frame. -/
import Derived.Test.YtejibonnjbhcjaaDoorUaSmall
namespace Go.Proofs.YtejibonnjbhcjaaDoor.Ua
open Go.RowKit

theorem put_1 (b : Int) (i : Nat) : put b 1 i = false := by unfold put; rw [if_neg (by omega)]
theorem put_step (b : Int) (k : Nat) (h : 1 ≤ k) (i : Nat) : upd (put b k) k (bit b (k - 1)) i = put b (k + 1) i := by
  unfold upd put
  by_cases e : i = k
  · subst e; rw [if_pos rfl, if_pos (by omega)]
  · rw [if_neg e]
    by_cases c : 1 ≤ i ∧ i < k
    · rw [if_pos c, if_pos (by omega)]
    · rw [if_neg c, if_neg (by omega)]

def no (_ : Nat) : Bool := false
/-- What holds of the world in which the frame is made: the result's block, the frame's, and all else as it was. -/
def Two (w wr : World) (F : Nat → Bool) : Prop := Row wr w.heap.size no ∧ Row wr (w.heap.size + 1) F ∧ Below w.heap.size w wr
theorem Two.frame {w wr : World} {F : Nat → Bool} (h : Two w wr F) : Row wr (w.heap.size + 1) F := h.2.1
theorem Two.res {w wr : World} {F : Nat → Bool} (h : Two w wr F) : Row wr w.heap.size no := h.1
theorem two_new (w : World) (F : Nat → Bool) (h : ∀ i, i < 11 → false = F i) : Two w ((w.alloc (.cells (arr no) 23)).alloc (.cells (arr no) 23)) F := by
  refine ⟨(Row.new w no).alloc _, ?_, ((Below.refl _ _).alloc (Nat.le_refl _) _).alloc (by simp) _⟩
  have := Row.new (w.alloc (.cells (arr no) 23)) no
  have e : (w.alloc (.cells (arr no) 23)).heap.size = w.heap.size + 1 := by simp
  rw [e] at this
  exact this.to h
theorem Two.set_ {w wr : World} {F : Nat → Bool} (h : Two w wr F) (k : Nat) (hk : k < 11) (x : Bool) : Two w (wr.setCell ⟨w.heap.size + 1, k, none⟩ (.bool x)) (upd F k x) :=
  ⟨h.1.far (by simp) _, h.2.1.set_ k hk x, h.2.2.setCell (by simp) _⟩
theorem Two.below {w wr w1 : World} {F : Nat → Bool} (h : Two w wr F) (hb : Below wr.heap.size wr w1) : Two w w1 F :=
  ⟨h.1.below hb h.1.lt, h.2.1.below hb h.2.1.lt, h.2.2.trans (hb.mono h.2.2.size)⟩
theorem Two.to {w wr : World} {F G : Nat → Bool} (h : Two w wr F) (e : ∀ i, i < 11 → F i = G i) : Two w wr G := ⟨h.1, h.2.1.to e, h.2.2⟩

set_option maxHeartbeats 400000 in
theorem put_any (w : World) (b : Int) (odd : Bool) (h0 : 0 ≤ b) (h1 : b ≤ 255) : Calls Tryd.prog 12 #[.int .u8 b, .bool odd] w fun e w' => e = .returned (.agg (arr (frm b odd))) ∧ Below w.heap.size w w' := by
  have T0 := Lib.hid (two_new w (put b 1) (fun i _ => (put_1 b i).symm))
  go_enter Tryd.func12, Tryd.ntmps12
  go_wp2
  go_loopw [6] (fun i wr => ∃ k : Nat, 1 ≤ k ∧ k ≤ 9 ∧ i = .int .i64 k ∧ Hid (Two w wr (put b k))) (fun i _ => 9 - (intOf i).toNat)
  case atStart => exact ⟨1, by omega, by omega, rfl, T0⟩
  case round =>
    obtain ⟨k, k1, k9, rfl, T⟩ := hrel
    by_cases hlt : k < 9
    · obtain ⟨j, rfl⟩ : ∃ j, k = j + 1 := ⟨k - 1, by omega⟩
      have c := T.out.2.1.cell (j + 1) (by omega)
      have f := T.out.2.1.frozen (j + 1)
      go_wp2_with fail
      refine (place_any _ j (by omega)).mono ?_
      rintro e w' ⟨rfl, rfl⟩
      go_wp2
      go_roundw
      case rel => exact ⟨j + 1 + 1, by omega, by omega, by go_num, by rw [and_bit b j h0 h1 (by omega)]; exact (T.out.set_ (j + 1) (by omega) _).to (fun i _ => put_step b (j + 1) (by omega) i)⟩
      case measure => simp [intOf]; omega
    · obtain rfl : k = 9 := by omega
      go_wp2_with (refine wpList_load_row rfl 23 _ rfl _ rfl _ _ _ _ T.out.2.1 Tryd.underlying23 rfl (info_of _) ?_)
      refine (isOdd_any _ _).mono ?_
      rintro e w1 ⟨rfl, b1⟩
      have T1 := Lib.hid (T.out.below b1)
      have c9 := T1.out.2.1.cell 9 (by omega)
      have c10 := T1.out.2.1.cell 10 (by omega)
      have f9 := T1.out.2.1.frozen 9
      have f10 := T1.out.2.1.frozen 10
      clear b1
      have T2 := Lib.hid ((T1.out.set_ 9 (by omega) (par (put b 9) 9 != odd)).set_ 10 (by omega) true)
      go_wp2_with (first
        | (refine wpList_load_row rfl 23 _ rfl _ rfl _ _ _ _ T2.out.2.1 Tryd.underlying23 rfl (info_of _) ?_)
        | (refine wpList_store_row rfl 23 _ _ rfl _ _ rfl rfl _ _ T2.out.1 (info_of _) rfl (arr_one _) ?_))
      refine bodyPost_ret (results_cell_row rfl _ _ _ _ _ _ _ rfl (T2.out.1.row _) Tryd.underlying23 rfl (info_of _)) rfl ⟨rfl, ?_⟩
      exact below_setRow T2.out.2.2 _ _ (Nat.le_refl _)

end Go.Proofs.YtejibonnjbhcjaaDoor.Ua
