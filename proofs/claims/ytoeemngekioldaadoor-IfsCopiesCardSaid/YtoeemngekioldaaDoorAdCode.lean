/- addr.Good, addr.Put, addr.Take, and how many first bytes lie ahead of an operation. -/
import Derived.Test.YtoeemngekioldaaDoorAdRef
namespace Go.Proofs.YtoeemngekioldaaDoor.Ad
open Go.RowKit

/-- What is known of the operations' first bytes. -/
def Lead (o n : Int) (k : Bool) : Prop := o = 0 ∧ n = 0 ∧ k = true ∨ o = 1 ∧ n = 64 ∧ k = true ∨ o = 2 ∧ n = 128 ∧ k = true ∨ (o < 0 ∨ 2 < o) ∧ n = 0 ∧ k = false

set_option maxHeartbeats 400000 in
theorem lead_any (w : World) (o n : Int) (k : Bool) (h : Lead o n k) : Calls Tryd.prog 40 #[.int .i64 o] w fun e w' => e = .returned (.tuple #[.int .i64 n, .bool k]) ∧ Below w.heap.size w w' := by
  rcases h with ⟨rfl, rfl, rfl⟩ | ⟨rfl, rfl, rfl⟩ | ⟨rfl, rfl, rfl⟩ | ⟨h | h, rfl, rfl⟩
  all_goals
    go_enter Tryd.func40, Tryd.ntmps40
    go_wp2
    go_ret2
    exact ⟨rfl, Below.refl _ _⟩

theorem lead_good {o : Int} (h1 : 0 ≤ o) (h2 : o ≤ 2) : Lead o (64 * o) true := by
  unfold Lead
  rcases (by omega : o = 0 ∨ o = 1 ∨ o = 2) with rfl | rfl | rfl
  · exact .inl ⟨rfl, rfl, rfl⟩
  · exact .inr (.inl ⟨rfl, rfl, rfl⟩)
  · exact .inr (.inr (.inl ⟨rfl, rfl, rfl⟩))
theorem lead_bad {o : Int} (h : ¬ (0 ≤ o ∧ o ≤ 2)) : Lead o 0 false := .inr (.inr (.inr ⟨by omega, rfl, rfl⟩))

set_option maxHeartbeats 1000000 in
theorem good_any (w : World) (o f r : Int) : Calls Tryd.prog 26 #[addr o f r] w fun e w' => e = .returned (.bool (goodB o f r)) ∧ Below w.heap.size w w' := by
  have B0 := Lib.hid ((Below.refl w.heap.size w).alloc (Nat.le_refl _) (.cells #[.int .i64 o, .int .i64 f, .int .i64 r] 30))
  unfold addr
  by_cases h0 : 0 ≤ o ∧ o ≤ 2
  · have L := Lib.hid (lead_good h0.1 h0.2)
    obtain ⟨h1, h2⟩ := h0
    go_enter Tryd.func26, Tryd.ntmps26
    go_wp2_with fail
    refine (lead_any _ o _ _ L.out).mono ?_
    rintro e w1 ⟨rfl, b1⟩
    have B1 := Lib.hid (B0.out.trans (b1.mono B0.out.size))
    have c1 : w1.cell? ⟨w.heap.size, 1, none⟩ = some (.int .i64 f) := (b1.cell (by simp)).trans (by go_simp)
    have c2 : w1.cell? ⟨w.heap.size, 2, none⟩ = some (.int .i64 r) := (b1.cell (by simp)).trans (by go_simp)
    clear b1 B0 L
    by_cases k0 : 0 ≤ f
    · by_cases k1 : f < 64
      · by_cases k2 : 0 ≤ r
        · by_cases k3 : r < 256
          · go_wp2
            go_ret
            exact ⟨ret_bool (by first | exact (decide_eq_true (show good o f r from ⟨by omega, by omega, by omega, by omega, by omega, by omega⟩)).symm | exact (decide_eq_false (show ¬ good o f r from fun g => by obtain ⟨_, _, _, _, _, _⟩ := g; omega)).symm | exact decide_eq_decide.2 ⟨fun h => absurd h (by omega), fun g => absurd g.2.2.2.2.2 (by omega)⟩), B1.out⟩
          · go_wp2
            go_ret
            exact ⟨ret_bool (by first | exact (decide_eq_true (show good o f r from ⟨by omega, by omega, by omega, by omega, by omega, by omega⟩)).symm | exact (decide_eq_false (show ¬ good o f r from fun g => by obtain ⟨_, _, _, _, _, _⟩ := g; omega)).symm | exact decide_eq_decide.2 ⟨fun h => absurd h (by omega), fun g => absurd g.2.2.2.2.2 (by omega)⟩), B1.out⟩
        · go_wp2
          go_ret
          exact ⟨ret_bool (by first | exact (decide_eq_true (show good o f r from ⟨by omega, by omega, by omega, by omega, by omega, by omega⟩)).symm | exact (decide_eq_false (show ¬ good o f r from fun g => by obtain ⟨_, _, _, _, _, _⟩ := g; omega)).symm | exact decide_eq_decide.2 ⟨fun h => absurd h (by omega), fun g => absurd g.2.2.2.2.2 (by omega)⟩), B1.out⟩
      · go_wp2
        go_ret
        exact ⟨ret_bool (by first | exact (decide_eq_true (show good o f r from ⟨by omega, by omega, by omega, by omega, by omega, by omega⟩)).symm | exact (decide_eq_false (show ¬ good o f r from fun g => by obtain ⟨_, _, _, _, _, _⟩ := g; omega)).symm | exact decide_eq_decide.2 ⟨fun h => absurd h (by omega), fun g => absurd g.2.2.2.2.2 (by omega)⟩), B1.out⟩
    · go_wp2
      go_ret
      exact ⟨ret_bool (by first | exact (decide_eq_true (show good o f r from ⟨by omega, by omega, by omega, by omega, by omega, by omega⟩)).symm | exact (decide_eq_false (show ¬ good o f r from fun g => by obtain ⟨_, _, _, _, _, _⟩ := g; omega)).symm | exact decide_eq_decide.2 ⟨fun h => absurd h (by omega), fun g => absurd g.2.2.2.2.2 (by omega)⟩), B1.out⟩
  · have L := Lib.hid (lead_bad h0)
    go_enter Tryd.func26, Tryd.ntmps26
    go_wp2_with fail
    refine (lead_any _ o _ _ L.out).mono ?_
    rintro e w1 ⟨rfl, b1⟩
    have B1 := Lib.hid (B0.out.trans (b1.mono B0.out.size))
    have c1 : w1.cell? ⟨w.heap.size, 1, none⟩ = some (.int .i64 f) := (b1.cell (by simp)).trans (by go_simp)
    have c2 : w1.cell? ⟨w.heap.size, 2, none⟩ = some (.int .i64 r) := (b1.cell (by simp)).trans (by go_simp)
    clear b1 B0 L
    go_wp2
    go_ret
    exact ⟨ret_bool (by first | exact (decide_eq_true (show good o f r from ⟨by omega, by omega, by omega, by omega, by omega, by omega⟩)).symm | exact (decide_eq_false (show ¬ good o f r from fun g => by obtain ⟨_, _, _, _, _, _⟩ := g; omega)).symm | exact decide_eq_decide.2 ⟨fun h => absurd h (by omega), fun g => absurd g.2.2.2.2.2 (by omega)⟩), B1.out⟩

end Go.Proofs.YtoeemngekioldaaDoor.Ad
