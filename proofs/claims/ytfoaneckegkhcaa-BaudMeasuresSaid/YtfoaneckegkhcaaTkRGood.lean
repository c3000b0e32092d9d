/- What the document's own Good answers: whether the steps may be. -/
import Derived.Test.YtfoaneckegkhcaaTkGood
import Derived.BigQuiet
import Derived.Deep.QuietTactic
import Derived.WalkSmall
namespace Go.Proofs.Ytfoaneckegkhcaa.Tk
open Go.RowKit

theorem bad' {A R : Nat → Int} {n k : Nat} (hk : k < n) (h : A k < 0 ∨ 4294967296 < A k ∨ 20000 < R k ∨ R k < -20000 ∨ (0 < k ∧ A k ≤ A (k - 1))) : goodB n A R = false := by
  refine goodB_no fun g => ?_
  have a := g.at_ k hk
  have r := g.rate k hk
  rcases h with h | h | h | h | ⟨h0, h⟩
  · omega
  · omega
  · omega
  · omega
  · have := g.up (k - 1) (by omega)
    rw [show k - 1 + 1 = k by omega] at this
    omega
theorem GoodTo.step' {A R : Nat → Int} {k : Nat} (g : GoodTo A R k) (h0 : ¬ A k < 0) (h1 : 0 < k → ¬ A k ≤ A (k - 1)) (h2 : ¬ 4294967296 < A k) (h3 : ¬ R k < -20000) (h4 : ¬ 20000 < R k) : GoodTo A R (k + 1) := by
  refine g.step ?_ h2 h3 h4
  cases k with
  | zero => show ¬ A 0 ≤ -1; omega
  | succ k => exact h1 (by omega)

set_option maxHeartbeats 400000 in
theorem rgood_some (w : World) (b off n cap : Nat) (hn : n ≤ maxLen) (A R : Nat → Int)
    (hc : ∀ i, i < n → w.cell? ⟨b, off + i * 2, none⟩ = some (.int .i64 (A i)) ∧ w.cell? ⟨b, off + i * 2 + 1, none⟩ = some (.int .i64 (R i))) :
    Calls Try.prog 5 #[.slice (some ⟨b, off, none⟩) n cap] w fun e w' => e = .returned (.bool (goodB n A R)) ∧ Below w.heap.size w w' := by
  have HC := Lib.hid hc; clear hc
  unfold maxLen at hn
  go_enter Try.func5, Try.ntmps5
  go_wp2
  go_loopw [3] (fun i wr => ∃ k : Nat, k ≤ n ∧ i = .int .i64 k ∧ GoodTo A R k ∧ Below w.heap.size w wr) (fun i _ => n - (intOf i).toNat)
  case atStart => exact ⟨0, Nat.zero_le _, rfl, GoodTo.zero A R, Below.refl _ _⟩
  case round =>
    obtain ⟨k, hk, rfl, hg, hb⟩ := hrel
    by_cases hlt : k < n
    · obtain ⟨c1, c2⟩ := HC.out k hlt
      have d1 := (hb.cell (World.block_lt_of_cell? _ _ c1)).trans c1
      have d2 := (hb.cell (World.block_lt_of_cell? _ _ c2)).trans c2
      clear c1 c2
      by_cases h0 : A k < 0
      · go_wp2
        go_ret
        exact ⟨ret_bool (bad' hlt (.inl h0)).symm, hb⟩
      · by_cases h2 : 4294967296 < A k
        · go_wp2
          go_ret
          exact ⟨ret_bool (bad' hlt (.inr (.inl h2))).symm, hb⟩
        · by_cases h4 : 20000 < R k
          · go_wp2
            go_ret
            exact ⟨ret_bool (bad' hlt (.inr (.inr (.inl h4)))).symm, hb⟩
          · by_cases h3 : R k < -20000
            · go_wp2
              go_ret
              exact ⟨ret_bool (bad' hlt (.inr (.inr (.inr (.inl h3))))).symm, hb⟩
            · by_cases hz : 0 < k
              · obtain ⟨c3, _⟩ := HC.out (k - 1) (by omega)
                have d3 := (hb.cell (World.block_lt_of_cell? _ _ c3)).trans c3
                clear c3
                by_cases h1 : A k ≤ A (k - 1)
                · go_wp2
                  go_quiet (fail)
                  go_wp2
                  go_ret
                  exact ⟨ret_bool (bad' hlt (.inr (.inr (.inr (.inr ⟨hz, h1⟩))))).symm, below_drewN hb _⟩
                · go_wp2
                  go_quiet (fail)
                  go_wp2
                  go_roundw
                  case rel => exact ⟨k + 1, by omega, by go_num, hg.step' (by omega) (fun _ => by omega) (by omega) (by omega) (by omega), below_drewN hb _⟩
                  case measure => simp [intOf]; omega
              · obtain rfl : k = 0 := by omega
                simp only [Nat.zero_mul, Nat.add_zero] at d1 d2
                go_wp2
                go_quiet (fail)
                go_wp2
                go_roundw
                case rel => exact ⟨1, by omega, by go_num, hg.step' (by omega) (fun h => by omega) (by omega) (by omega) (by omega), below_drewN hb _⟩
                case measure => simp [intOf]; omega
    · obtain rfl : k = n := by omega
      by_cases h6 : k ≤ 64
      · go_wp2
        go_ret
        exact ⟨ret_bool (by rw [goodB_yes (hg.all h6)]; simp; omega), hb⟩
      · go_wp2
        go_ret
        exact ⟨ret_bool (by rw [goodB_no (fun g : GoodP k A R => by have := g.len; omega)]; simp; omega), hb⟩

theorem rgood_none (w : World) (a : Option Addr) (cap : Nat) (A R : Nat → Int) : Calls Try.prog 5 #[.slice a 0 cap] w fun e w' => e = .returned (.bool (goodB 0 A R)) ∧ Below w.heap.size w w' := by
  rw [goodB_yes (⟨by omega, fun i h => by omega, fun i h => by omega, fun i h => by omega⟩ : GoodP 0 A R)]
  go_enter Try.func5, Try.ntmps5
  go_wp2
  go_loopw [3] (fun i wr => i = .int .i64 0 ∧ Below w.heap.size w wr) (fun _ _ => 0)
  case atStart => exact ⟨rfl, Below.refl _ _⟩
  case round =>
    obtain ⟨rfl, hb⟩ := hrel
    go_wp2
    go_ret
    exact ⟨rfl, hb⟩

/-- The document's own Good, of whatever steps. -/
theorem rgood_any (w : World) (v : Value) (n : Nat) (A R : Nat → Int) (h : Steps w v n A R) : Calls Try.prog 5 #[v] w fun e w' => e = .returned (.bool (goodB n A R)) ∧ Below w.heap.size w w' := by
  rcases h with ⟨a, cap, rfl, _, rfl⟩ | ⟨b, off, cap, rfl, h1, h2, hc⟩
  · exact rgood_none w a cap A R
  · exact rgood_some w b off n cap (by omega) A R hc

end Go.Proofs.Ytfoaneckegkhcaa.Tk
