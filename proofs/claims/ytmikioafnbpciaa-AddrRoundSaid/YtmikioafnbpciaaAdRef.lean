/- Layer 8: what an address's bytes are, and a byte pair's address; the document's own functions. -/
import Derived.Test.YtmikioafnbpciaaChecked
import Derived.WalkKit
import Derived.LoopTactic
import Derived.Outline
import Derived.Deep.Draws
import Derived.DeepKeys
import Derived.Laws.ResultCell
import Derived.Lib.Hide
namespace Go.Proofs.Ytmikioafnbpciaa.Ad
open Go.RowKit

def good (o f r : Int) : Prop := 0 ≤ o ∧ o ≤ 2 ∧ 0 ≤ f ∧ f ≤ 63 ∧ 0 ≤ r ∧ r ≤ 255
instance (o f r : Int) : Decidable (good o f r) := by unfold good; infer_instance
def goodB (o f r : Int) : Bool := decide (good o f r)
/-- An address as a value; a pair of bytes. -/
def addr (o f r : Int) : Value := .agg #[.int .i64 o, .int .i64 f, .int .i64 r]
def pair (a b : Int) : Value := .agg #[.int .u8 a, .int .u8 b]
theorem ret_bool {a b : Bool} (h : a = b) : Ending.returned (.bool a) = .returned (.bool b) := by rw [h]

/-- What an address's bytes are, and the error. -/
def PutPost (w : World) (o f r : Int) (e : Ending) (w' : World) : Prop := (good o f r ∧ e = .returned (.tuple #[pair (64 * o + f) r, .int .i64 0]) ∨ ¬ good o f r ∧ e = .returned (.tuple #[pair 0 0, .int .i64 1])) ∧ Below w.heap.size w w'
def TakePost (w : World) (a b : Int) (e : Ending) (w' : World) : Prop := (a < 192 ∧ e = .returned (.tuple #[addr (a / 64) (a % 64) b, .int .i64 0]) ∨ 192 ≤ a ∧ e = .returned (.tuple #[addr 0 0 0, .int .i64 2])) ∧ Below w.heap.size w w'

set_option maxHeartbeats 400000 in
theorem rgood_any (w : World) (o f r : Int) : Calls Try.prog 11 #[addr o f r] w fun e w' => e = .returned (.bool (goodB o f r)) ∧ Below w.heap.size w w' := by
  have B0 := Lib.hid ((Below.refl w.heap.size w).alloc (Nat.le_refl _) (.cells #[.int .i64 o, .int .i64 f, .int .i64 r] 23))
  unfold addr
  by_cases h1 : 0 ≤ o
  · by_cases h2 : o ≤ 2
    · by_cases h3 : 0 ≤ f
      · by_cases h4 : f ≤ 63
        · by_cases h5 : 0 ≤ r
          · by_cases h6 : r ≤ 255
            · go_enter Try.func11, Try.ntmps11
              go_wp2
              go_ret
              exact ⟨ret_bool (by first | exact (decide_eq_true (show good o f r from ⟨by omega, by omega, by omega, by omega, by omega, by omega⟩)).symm | exact (decide_eq_false (show ¬ good o f r from fun g => by obtain ⟨_, _, _, _, _, _⟩ := g; omega)).symm), B0.out⟩
            · go_enter Try.func11, Try.ntmps11
              go_wp2
              go_ret
              exact ⟨ret_bool (by first | exact (decide_eq_true (show good o f r from ⟨by omega, by omega, by omega, by omega, by omega, by omega⟩)).symm | exact (decide_eq_false (show ¬ good o f r from fun g => by obtain ⟨_, _, _, _, _, _⟩ := g; omega)).symm), B0.out⟩
          · go_enter Try.func11, Try.ntmps11
            go_wp2
            go_ret
            exact ⟨ret_bool (by first | exact (decide_eq_true (show good o f r from ⟨by omega, by omega, by omega, by omega, by omega, by omega⟩)).symm | exact (decide_eq_false (show ¬ good o f r from fun g => by obtain ⟨_, _, _, _, _, _⟩ := g; omega)).symm), B0.out⟩
        · go_enter Try.func11, Try.ntmps11
          go_wp2
          go_ret
          exact ⟨ret_bool (by first | exact (decide_eq_true (show good o f r from ⟨by omega, by omega, by omega, by omega, by omega, by omega⟩)).symm | exact (decide_eq_false (show ¬ good o f r from fun g => by obtain ⟨_, _, _, _, _, _⟩ := g; omega)).symm), B0.out⟩
      · go_enter Try.func11, Try.ntmps11
        go_wp2
        go_ret
        exact ⟨ret_bool (by first | exact (decide_eq_true (show good o f r from ⟨by omega, by omega, by omega, by omega, by omega, by omega⟩)).symm | exact (decide_eq_false (show ¬ good o f r from fun g => by obtain ⟨_, _, _, _, _, _⟩ := g; omega)).symm), B0.out⟩
    · go_enter Try.func11, Try.ntmps11
      go_wp2
      go_ret
      exact ⟨ret_bool (by first | exact (decide_eq_true (show good o f r from ⟨by omega, by omega, by omega, by omega, by omega, by omega⟩)).symm | exact (decide_eq_false (show ¬ good o f r from fun g => by obtain ⟨_, _, _, _, _, _⟩ := g; omega)).symm), B0.out⟩
  · go_enter Try.func11, Try.ntmps11
    go_wp2
    go_ret
    exact ⟨ret_bool (by first | exact (decide_eq_true (show good o f r from ⟨by omega, by omega, by omega, by omega, by omega, by omega⟩)).symm | exact (decide_eq_false (show ¬ good o f r from fun g => by obtain ⟨_, _, _, _, _, _⟩ := g; omega)).symm), B0.out⟩

theorem at_bool {P : Program} {f : Nat} {args : Array Value} {w : World} {B : Nat} {a b : Bool} (e : a = b) (c : Calls P f args w fun e w' => e = .returned (.bool a) ∧ Below B w w') : Calls P f args w fun e w' => e = .returned (.bool b) ∧ Below B w w' := by rw [← e]; exact c

set_option maxHeartbeats 400000 in
theorem rput_any (w : World) (o f r : Int) : Calls Try.prog 6 #[addr o f r] w (PutPost w o f r) := by
  have B0 := Lib.hid (((Below.refl w.heap.size w).alloc (Nat.le_refl _) (.cells #[.int .i64 o, .int .i64 f, .int .i64 r] 23)).alloc (by simp) (.cells #[.int .u8 0, .int .u8 0] 24))
  by_cases hg : good o f r
  · have GA := Lib.hid (at_bool (show goodB o f r = true from decide_eq_true hg) (rgood_any ((w.alloc (.cells #[.int .i64 o, .int .i64 f, .int .i64 r] 23)).alloc (.cells #[.int .u8 0, .int .u8 0] 24)) o f r))
    have HG := Lib.hid hg
    obtain ⟨g1, g2, g3, g4, g5, g6⟩ := hg
    unfold addr at *
    go_enter Try.func6, Try.ntmps6
    go_wp2_with fail
    refine GA.out.mono ?_
    rintro e w1 ⟨rfl, b1⟩
    have B1 := Lib.hid (B0.out.trans (b1.mono B0.out.size))
    have c0 : w1.cell? ⟨w.heap.size, 0, none⟩ = some (.int .i64 o) := (b1.cell (by simp; omega)).trans (by go_simp)
    have c1 : w1.cell? ⟨w.heap.size, 1, none⟩ = some (.int .i64 f) := (b1.cell (by simp; omega)).trans (by go_simp)
    have c2 : w1.cell? ⟨w.heap.size, 2, none⟩ = some (.int .i64 r) := (b1.cell (by simp; omega)).trans (by go_simp)
    have k0 : w1.cell? ⟨w.heap.size + 1, 0, none⟩ = some (.int .u8 0) := (b1.cell (by simp)).trans (by go_simp)
    have k1 : w1.cell? ⟨w.heap.size + 1, 1, none⟩ = some (.int .u8 0) := (b1.cell (by simp)).trans (by go_simp)
    have m0 : w1.frozen? ⟨w.heap.size + 1, 0, none⟩ = false := (b1.frozen (by simp)).trans (by go_simp)
    have m1 : w1.frozen? ⟨w.heap.size + 1, 1, none⟩ = false := (b1.frozen (by simp)).trans (by go_simp)
    clear b1 GA B0
    go_wp2
    (try simp only [Exit.inBlock, Exit.then])
    refine bodyPost_ret (v := .tuple #[pair (64 * o + f) r, .int .i64 0]) ?_ rfl ⟨.inl ⟨HG.out, rfl⟩, ?_⟩
    · rw [results_cell_tmp rfl]; go_simp; rfl
    · exact (B1.out.setCell (by simp) _).setCell (by simp) _
  · have GA := Lib.hid (at_bool (show goodB o f r = false from decide_eq_false hg) (rgood_any ((w.alloc (.cells #[.int .i64 o, .int .i64 f, .int .i64 r] 23)).alloc (.cells #[.int .u8 0, .int .u8 0] 24)) o f r))
    have HG := Lib.hid hg
    clear hg
    unfold addr at *
    go_enter Try.func6, Try.ntmps6
    go_wp2_with fail
    refine GA.out.mono ?_
    rintro e w1 ⟨rfl, b1⟩
    have B1 := Lib.hid (B0.out.trans (b1.mono B0.out.size))
    have k0 : w1.cell? ⟨w.heap.size + 1, 0, none⟩ = some (.int .u8 0) := (b1.cell (by simp)).trans (by go_simp)
    have k1 : w1.cell? ⟨w.heap.size + 1, 1, none⟩ = some (.int .u8 0) := (b1.cell (by simp)).trans (by go_simp)
    have m0 : w1.frozen? ⟨w.heap.size + 1, 0, none⟩ = false := (b1.frozen (by simp)).trans (by go_simp)
    have m1 : w1.frozen? ⟨w.heap.size + 1, 1, none⟩ = false := (b1.frozen (by simp)).trans (by go_simp)
    clear b1 GA B0
    go_wp2
    (try simp only [Exit.inBlock, Exit.then])
    refine bodyPost_ret (v := .tuple #[pair 0 0, .int .i64 1]) ?_ rfl ⟨.inr ⟨HG.out, rfl⟩, ?_⟩
    · rw [results_cell_tmp rfl]; go_simp; rfl
    · exact (B1.out.setCell (by simp) _).setCell (by simp) _

set_option maxHeartbeats 400000 in
theorem rtake_any (w : World) (a b : Int) (a0 : 0 ≤ a) (a1 : a ≤ 255) (b0 : 0 ≤ b) (b1 : b ≤ 255) : Calls Try.prog 8 #[pair a b] w (TakePost w a b) := by
  have B0 := Lib.hid (((Below.refl w.heap.size w).alloc (Nat.le_refl _) (.cells #[.int .u8 a, .int .u8 b] 24)).alloc (by simp) (.cells #[.int .i64 0, .int .i64 0, .int .i64 0] 23))
  unfold pair
  by_cases h : 192 ≤ a
  · go_enter Try.func8, Try.ntmps8
    go_wp2
    (try simp only [Exit.inBlock, Exit.then])
    refine bodyPost_ret (v := .tuple #[addr 0 0 0, .int .i64 2]) ?_ rfl ⟨.inr ⟨h, rfl⟩, ?_⟩
    · rw [results_cell_tmp rfl]; go_simp; rfl
    · first | exact B0.out | exact ((Below.refl w.heap.size w).alloc (Nat.le_refl _) _).alloc (by simp) _
  · have q1 : a.tdiv 64 = a / 64 := Int.tdiv_eq_ediv_of_nonneg a0
    have q2 : a.tmod 64 = a % 64 := Int.tmod_eq_emod_of_nonneg a0
    go_enter Try.func8, Try.ntmps8
    go_wp2
    (try simp only [Exit.inBlock, Exit.then])
    refine bodyPost_ret (v := .tuple #[addr (a / 64) (a % 64) b, .int .i64 0]) ?_ rfl ⟨.inl ⟨by omega, rfl⟩, ?_⟩
    · rw [results_cell_tmp rfl]; go_simp; rfl
    · first | exact B0.out | exact ((Below.refl w.heap.size w).alloc (Nat.le_refl _) _).alloc (by simp) _

end Go.Proofs.Ytmikioafnbpciaa.Ad
