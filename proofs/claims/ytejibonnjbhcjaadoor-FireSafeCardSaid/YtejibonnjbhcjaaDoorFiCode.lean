/- fire.Code, fire.Round, fire.Apart. -/
import Derived.Test.YtejibonnjbhcjaaDoorFiTab
import Derived.Test.YtejibonnjbhcjaaDoorFiRef
import Derived.Test.YtejibonnjbhcjaaDoorSeIdx
import Derived.Deep.QuietTactic
import Derived.BigQuiet
import Derived.WalkSmall
namespace Go.Proofs.YtejibonnjbhcjaaDoor.Fi
open Go.RowKit
open Go.Proofs.YtejibonnjbhcjaaDoor.Ua (arr Row)

set_option maxHeartbeats 400000 in
theorem code_any (w : World) (T : Tab w) (n : Int) : Calls Tryd.prog 5 #[.int .i64 n] w fun e w' => e = .returned (.tuple #[.int .u8 (codeV n).1, .int .i64 (codeV n).2]) ∧ Below w.heap.size w w' := by
  obtain ⟨b, off, cap, h0, h1, h2, h3⟩ := T
  unfold maxLen at h2
  by_cases n0 : n < 0
  · have E := Lib.hid (code_out (.inl n0)).symm
    go_enter Tryd.func5, Tryd.ntmps5
    go_wp2
    go_ret2
    exact ⟨ret_two E.out, Below.refl _ _⟩
  · by_cases n7 : 7 < n
    · have E := Lib.hid (code_out (.inr n7)).symm
      go_enter Tryd.func5, Tryd.ntmps5
      go_wp2
      go_ret2
      exact ⟨ret_two E.out, Below.refl _ _⟩
    · obtain ⟨k, rfl⟩ : ∃ k : Nat, n = k := ⟨n.toNat, by omega⟩
      have hk : k < 8 := by omega
      have c := h3 k hk
      have E := Lib.hid (code_in (n := k) rfl hk).symm
      have H3 := Lib.hid h3
      clear h3 n0 n7
      go_enter Tryd.func5, Tryd.ntmps5
      go_wp2
      go_ret2
      exact ⟨ret_two E.out, Below.refl _ _⟩

set_option maxHeartbeats 400000 in
theorem round_any (w : World) (T : Tab w) (x : Int) (odd : Bool) : Calls Tryd.prog 7 #[.int .u8 x, .bool odd] w fun e w' => e = .returned (.tuple #[.int .i64 (roundV x odd).1, .int .i64 (roundV x odd).2]) ∧ Below w.heap.size w w' := by
  obtain ⟨b, off, cap, h0, h1, h2, h3⟩ := T
  cases odd with
  | false =>
    go_enter Tryd.func7, Tryd.ntmps7
    go_wp2
    go_ret2
    exact ⟨rfl, Below.refl _ _⟩
  | true =>
    have H3 := Lib.hid h3
    clear h3
    go_enter Tryd.func7, Tryd.ntmps7
    go_wp2
    go_loop [12] (fun i => ∃ k : Nat, k ≤ 8 ∧ i = .int .i64 k ∧ Hid (∀ j, j < k → isC x j = false)) (fun i => 8 - (intOf i).toNat)
    case atStart => exact ⟨0, by omega, rfl, fun j hj => by omega⟩
    case round =>
      obtain ⟨k, hk, rfl, hs⟩ := hrel
      by_cases hlt : k < 8
      · have c := H3.out k hlt
        by_cases hc : cd k = x
        · have E := Lib.hid (round_hit hlt hc hs.out).symm
          go_wp2
          go_ret2
          exact ⟨ret_two E.out, Below.refl _ _⟩
        · have ST : Hid (∀ j, j < k + 1 → isC x j = false) := fun j hj => by
            by_cases e : j = k
            · rw [e]; simp [isC, hc]
            · exact hs.out j (by omega)
          go_wp2
          go_round
          case rel => exact ⟨k + 1, by omega, by go_num, ST⟩
          case measure => simp [intOf]; omega
      · obtain rfl : k = 8 := by omega
        have E := Lib.hid (round_miss hs.out).symm
        go_wp2
        go_ret2
        exact ⟨ret_two E.out, Below.refl _ _⟩

set_option maxHeartbeats 400000 in
theorem apart_any (w : World) (F G : Nat → Bool) : Calls Tryd.prog 10 #[.agg (arr F), .agg (arr G)] w fun e w' => e = .returned (.int .i64 (dif F G 11 : Nat)) ∧ Below w.heap.size w w' := by
  have hz : (w.alloc (.cells (arr F) 23)).heap.size = w.heap.size + 1 := by simp
  have R := (Row.new w F).alloc (.cells (arr G) 23)
  have R' := Row.new (w.alloc (.cells (arr F) 23)) G
  rw [hz] at R'
  have RF := Lib.hid R
  have RG := Lib.hid R'
  have B0 := Lib.hid (((Below.refl w.heap.size w).alloc (Nat.le_refl _) (.cells (arr F) 23)).alloc (by simp) (.cells (arr G) 23))
  clear R R' hz
  go_enter Tryd.func10, Tryd.ntmps10
  go_wp2_with ((with_reducible refine Ua.load_frame (o := ⟨some 8, _, _, _, _, _⟩) rfl _ rfl _ _ ?_ RF.out ?_); (exact rfl))
  go_loopw [5, 9] (fun c i wr => ∃ k : Nat, k ≤ 11 ∧ i = .int .i64 k ∧ c = .int .i64 (dif F G k : Nat) ∧ Hid (Row wr (w.heap.size + 1) G ∧ Below w.heap.size w wr)) (fun _ i _ => 11 - (intOf i).toNat)
  case atStart => exact ⟨0, by omega, rfl, rfl, RG.out, B0.out⟩
  case round =>
    obtain ⟨k, hk, rfl, rfl, T⟩ := hrel
    have q := dif_le F G k
    by_cases hlt : k < 11
    · have ri := Ua.run_index_arr F k hlt
      have c2 := T.out.1.cell k hlt
      cases hF : F k <;> cases hG : G k
      all_goals
        rw [hF] at ri
        rw [hG] at c2
        first
          | (have E := Lib.hid (dif_same (F := F) (G := G) (k := k) (hF.trans hG.symm))
             clear hF hG
             go_wp2
             go_roundw
             case rel => exact ⟨k + 1, by omega, by go_num, by rw [E.out], T.out⟩
             case measure => simp [intOf]; omega)
          | (have E := Lib.hid (dif_one (F := F) (G := G) (k := k) (by rw [hF, hG]; decide))
             clear hF hG
             go_wp2
             go_roundw
             case rel => exact ⟨k + 1, by omega, by go_num, by rw [E.out]; go_num, T.out⟩
             case measure => simp [intOf]; omega)
    · obtain rfl : k = 11 := by omega
      go_wp2
      go_ret
      exact ⟨rfl, T.out.2⟩

end Go.Proofs.YtejibonnjbhcjaaDoor.Fi
