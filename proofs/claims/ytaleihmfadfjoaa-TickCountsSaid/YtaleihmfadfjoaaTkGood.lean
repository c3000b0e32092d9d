/- What tick.Good answers: whether the steps may be. -/
import Derived.Test.YtaleihmfadfjoaaTkMem
import Derived.Test.YtaleihmfadfjoaaChecked
import Derived.LoopTactic
import Derived.Outline
import Derived.Deep.LoopGhost
import Derived.Deep.Draws
import Derived.Lib.Hide
namespace Go.Proofs.Ytaleihmfadfjoaa.Tk
open Go.RowKit

def prev (A : Nat → Int) : Nat → Int
  | 0 => -1
  | k + 1 => A k

structure GoodTo (A R : Nat → Int) (k : Nat) : Prop where
  at_ : ∀ i, i < k → 0 ≤ A i ∧ A i ≤ 4294967296
  rate : ∀ i, i < k → -20000 ≤ R i ∧ R i ≤ 20000
  up : ∀ i, i + 1 < k → A i < A (i + 1)

theorem GoodTo.zero (A R : Nat → Int) : GoodTo A R 0 := ⟨fun i h => by omega, fun i h => by omega, fun i h => by omega⟩
theorem GoodTo.lo {A R : Nat → Int} {k : Nat} (g : GoodTo A R k) : -1 ≤ prev A k := by
  cases k with
  | zero => exact Int.le_refl _
  | succ k => have := (g.at_ k (by omega)).1; show -1 ≤ A k; omega
theorem GoodTo.step {A R : Nat → Int} {k : Nat} (g : GoodTo A R k) (h1 : ¬ A k ≤ prev A k) (h2 : ¬ 4294967296 < A k) (h3 : ¬ R k < -20000) (h4 : ¬ 20000 < R k) : GoodTo A R (k + 1) := by
  have l := g.lo
  refine ⟨fun i hi => ?_, fun i hi => ?_, fun i hi => ?_⟩
  · by_cases e : i = k
    · subst e; omega
    · exact g.at_ i (by omega)
  · by_cases e : i = k
    · subst e; omega
    · exact g.rate i (by omega)
  · by_cases e : i + 1 = k
    · subst e; have : prev A (i + 1) = A i := rfl; omega
    · exact g.up i (by omega)
theorem GoodTo.all {A R : Nat → Int} {n : Nat} (g : GoodTo A R n) (h : n ≤ 64) : GoodP n A R := ⟨h, g.at_, g.rate, g.up⟩
theorem bad {A R : Nat → Int} {n k : Nat} (hk : k < n) (h : A k ≤ prev A k ∨ 4294967296 < A k ∨ R k < -20000 ∨ 20000 < R k) : goodB n A R = false := by
  refine goodB_no fun g => ?_
  have a := g.at_ k hk
  have r := g.rate k hk
  rcases h with h | h | h | h
  · cases k with
    | zero => have : prev A 0 = -1 := rfl; omega
    | succ k => have := g.up k hk; have : prev A (k + 1) = A k := rfl; omega
  · omega
  · omega
  · omega

theorem ret_bool {a b : Bool} (h : a = b) : Ending.returned (.bool a) = .returned (.bool b) := by rw [h]
theorem ret_int {a b : Int} (h : a = b) : Ending.returned (.int .i64 a) = .returned (.int .i64 b) := by rw [h]

theorem good_none (w : World) (a : Option Addr) (cap : Nat) (A R : Nat → Int) : Calls Try.prog 5 #[.slice a 0 cap] w fun e w' => e = .returned (.bool (goodB 0 A R)) ∧ Below w.heap.size w w' := by
  rw [goodB_yes (⟨by omega, fun i h => by omega, fun i h => by omega, fun i h => by omega⟩ : GoodP 0 A R)]
  go_enter Try.func5, Try.ntmps5
  go_wp2
  go_loopw [3, 11] (fun _ i wr => i = .int .i64 0 ∧ Below w.heap.size w wr) (fun _ _ _ => 0)
  case atStart => exact ⟨rfl, Below.refl _ _⟩
  case round =>
    obtain ⟨rfl, hb⟩ := hrel
    go_wp2
    go_ret
    exact ⟨rfl, hb⟩

theorem good_long (w : World) (a : Option Addr) (n cap : Nat) (h : 64 < n) (A R : Nat → Int) : Calls Try.prog 5 #[.slice a n cap] w fun e w' => e = .returned (.bool (goodB n A R)) ∧ Below w.heap.size w w' := by
  rw [goodB_no (fun g : GoodP n A R => by have := g.len; omega)]
  go_enter Try.func5, Try.ntmps5
  go_wp2
  go_ret
  exact ⟨rfl, Below.refl _ _⟩

theorem good_some (w : World) (b off n cap : Nat) (h : n ≤ 64) (A R : Nat → Int)
    (hc : ∀ i, i < n → w.cell? ⟨b, off + i * 2, none⟩ = some (.int .i64 (A i)) ∧ w.cell? ⟨b, off + i * 2 + 1, none⟩ = some (.int .i64 (R i))) :
    Calls Try.prog 5 #[.slice (some ⟨b, off, none⟩) n cap] w fun e w' => e = .returned (.bool (goodB n A R)) ∧ Below w.heap.size w w' := by
  have HC := Lib.hid hc; clear hc
  go_enter Try.func5, Try.ntmps5
  go_wp2
  go_loopw [3, 11] (fun a i wr => ∃ k : Nat, k ≤ n ∧ i = .int .i64 k ∧ a = .int .i64 (prev A k) ∧ GoodTo A R k ∧ Below w.heap.size w wr) (fun _ i _ => n - (intOf i).toNat)
  case atStart => exact ⟨0, Nat.zero_le _, rfl, rfl, GoodTo.zero A R, Below.refl _ _⟩
  case round =>
    obtain ⟨k, hk, rfl, rfl, hg, hb⟩ := hrel
    by_cases hlt : k < n
    · obtain ⟨c1, c2⟩ := HC.out k hlt
      have d1 := (hb.cell (World.block_lt_of_cell? _ _ c1)).trans c1
      have d2 := (hb.cell (World.block_lt_of_cell? _ _ c2)).trans c2
      clear c1 c2
      by_cases h1 : A k ≤ prev A k
      · go_wp2
        go_ret
        exact ⟨ret_bool (bad hlt (.inl h1)).symm, hb.alloc hb.size _⟩
      · by_cases h2 : 4294967296 < A k
        · go_wp2
          go_ret
          exact ⟨ret_bool (bad hlt (.inr (.inl h2))).symm, hb.alloc hb.size _⟩
        · by_cases h3 : R k < -20000
          · go_wp2
            go_ret
            exact ⟨ret_bool (bad hlt (.inr (.inr (.inl h3)))).symm, hb.alloc hb.size _⟩
          · by_cases h4 : 20000 < R k
            · go_wp2
              go_ret
              exact ⟨ret_bool (bad hlt (.inr (.inr (.inr h4)))).symm, hb.alloc hb.size _⟩
            · go_wp2
              go_roundw
              case rel => exact ⟨k + 1, by omega, by go_num, rfl, hg.step h1 h2 h3 h4, hb.alloc hb.size _⟩
              case measure => simp [intOf]; omega
    · obtain rfl : k = n := by omega
      go_wp2
      go_ret
      exact ⟨ret_bool (goodB_yes (hg.all h)).symm, hb⟩

/-- tick.Good, of whatever steps. -/
theorem good_any (w : World) (v : Value) (n : Nat) (A R : Nat → Int) (h : Steps w v n A R) : Calls Try.prog 5 #[v] w fun e w' => e = .returned (.bool (goodB n A R)) ∧ Below w.heap.size w w' := by
  rcases h with ⟨a, cap, rfl, _, rfl⟩ | ⟨b, off, cap, rfl, _, _, hc⟩
  · exact good_none w a cap A R
  · by_cases hn : n ≤ 64
    · exact good_some w b off n cap hn A R hc
    · exact good_long w _ n cap (by omega) A R

end Go.Proofs.Ytaleihmfadfjoaa.Tk
