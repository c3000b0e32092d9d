/- uart.Turn: a frame of which some bits are turned. -/
import Derived.Test.YtejibonnjbhcjaaDoorUaPut
namespace Go.Proofs.YtejibonnjbhcjaaDoor.Ua
open Go.RowKit

theorem turn_0 (F : Nat → Bool) (m : Int) (i : Nat) : turn F m 0 i = F i := by unfold turn; rw [if_neg (by omega)]
theorem turn_yes {F : Nat → Bool} {m : Int} {k : Nat} (h : bit m k = true) (i : Nat) : upd (turn F m k) k (!turn F m k k) i = turn F m (k + 1) i := by
  unfold upd turn
  by_cases e : i = k
  · subst e; rw [if_pos rfl, if_neg (by omega), if_pos (by omega), h]; simp
  · rw [if_neg e]
    by_cases c : i < k
    · rw [if_pos c, if_pos (by omega)]
    · rw [if_neg c, if_neg (by omega)]
theorem turn_no {F : Nat → Bool} {m : Int} {k : Nat} (h : bit m k = false) (i : Nat) : turn F m k i = turn F m (k + 1) i := by
  unfold turn
  by_cases e : i = k
  · subst e; rw [if_neg (by omega), if_pos (by omega), h]; simp
  · by_cases c : i < k
    · rw [if_pos c, if_pos (by omega)]
    · rw [if_neg c, if_neg (by omega)]

/-- What holds of the world in which a frame that was handed in is turned: its own block, the result's, and all else as it was. -/
def Own2 (w wr : World) (F : Nat → Bool) : Prop := Row wr w.heap.size F ∧ Row wr (w.heap.size + 1) no ∧ Below w.heap.size w wr
theorem own2_new (w : World) (F : Nat → Bool) : Own2 w ((w.alloc (.cells (arr F) 23)).alloc (.cells (arr no) 23)) F := by
  refine ⟨(Row.new w F).alloc _, ?_, ((Below.refl _ _).alloc (Nat.le_refl _) _).alloc (by simp) _⟩
  have := Row.new (w.alloc (.cells (arr F) 23)) no
  have e : (w.alloc (.cells (arr F) 23)).heap.size = w.heap.size + 1 := by simp
  rw [e] at this
  exact this
theorem Own2.set_ {w wr : World} {F : Nat → Bool} (h : Own2 w wr F) (k : Nat) (hk : k < 11) (x : Bool) : Own2 w (wr.setCell ⟨w.heap.size, k, none⟩ (.bool x)) (upd F k x) :=
  ⟨h.1.set_ k hk x, h.2.1.far (by simp) _, h.2.2.setCell (by simp) _⟩
theorem Own2.to {w wr : World} {F G : Nat → Bool} (h : Own2 w wr F) (e : ∀ i, i < 11 → F i = G i) : Own2 w wr G := ⟨h.1.to e, h.2.1, h.2.2⟩

set_option maxHeartbeats 400000 in
theorem turn_any (w : World) (F : Nat → Bool) (m : Int) : Calls Tryd.prog 13 #[.agg (arr F), .int .i64 m] w fun e w' => e = .returned (.agg (arr (turn F m 11))) ∧ Below w.heap.size w w' := by
  have T0 := Lib.hid ((own2_new w F).to (fun i _ => (turn_0 F m i).symm))
  go_enter Tryd.func13, Tryd.ntmps13
  go_wp2
  go_loopw [6] (fun i wr => ∃ k : Nat, k ≤ 11 ∧ i = .int .i64 k ∧ Hid (Own2 w wr (turn F m k))) (fun i _ => 11 - (intOf i).toNat)
  case atStart => exact ⟨0, by omega, rfl, T0⟩
  case round =>
    obtain ⟨k, hk, rfl, T⟩ := hrel
    by_cases hlt : k < 11
    · have c := T.out.1.cell k hlt
      have f := T.out.1.frozen k
      cases hb : bit m k with
      | true =>
        have TY := Lib.hid (turn_yes (F := F) hb)
        have tt := (test_one m k).trans hb
        clear hb
        go_wp2
        go_roundw
        case rel => exact ⟨k + 1, by omega, by go_num, (T.out.set_ k hlt _).to (fun i _ => TY.out i)⟩
        case measure => simp [intOf]; omega
      | false =>
        have TN := Lib.hid (turn_no (F := F) hb)
        have tt := (test_one m k).trans hb
        clear hb
        go_wp2
        go_roundw
        case rel => exact ⟨k + 1, by omega, by go_num, T.out.to (fun i _ => TN.out i)⟩
        case measure => simp [intOf]; omega
    · obtain rfl : k = 11 := by omega
      go_wp2_with (first
        | (refine wpList_load_row rfl 23 _ rfl _ rfl _ _ _ _ T.out.1 Tryd.underlying23 rfl (info_of _) ?_)
        | (refine wpList_store_row rfl 23 _ _ rfl _ _ rfl rfl _ _ T.out.2.1 (info_of _) rfl (arr_one _) ?_))
      refine bodyPost_ret (results_cell_row rfl _ _ _ _ _ _ _ rfl (T.out.2.1.row _) Tryd.underlying23 rfl (info_of _)) rfl ⟨rfl, ?_⟩
      exact below_setRow T.out.2.2 _ _ (by omega)

end Go.Proofs.YtejibonnjbhcjaaDoor.Ua
