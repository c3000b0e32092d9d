/- addr.Good, addr.Put, addr.Take, and how many first bytes lie ahead of an operation. -/
import Derived.Test.YtmikioafnbpciaaAdRef
namespace Go.Proofs.Ytmikioafnbpciaa.Ad
open Go.RowKit

/-- What is known of the operations' first bytes. -/
def Lead (o n : Int) (k : Bool) : Prop := o = 0 ∧ n = 0 ∧ k = true ∨ o = 1 ∧ n = 64 ∧ k = true ∨ o = 2 ∧ n = 128 ∧ k = true ∨ (o < 0 ∨ 2 < o) ∧ n = 0 ∧ k = false

set_option maxHeartbeats 400000 in
theorem lead_any (w : World) (o n : Int) (k : Bool) (h : Lead o n k) : Calls Try.prog 12 #[.int .i64 o] w fun e w' => e = .returned (.tuple #[.int .i64 n, .bool k]) ∧ Below w.heap.size w w' := by
  rcases h with ⟨rfl, rfl, rfl⟩ | ⟨rfl, rfl, rfl⟩ | ⟨rfl, rfl, rfl⟩ | ⟨h | h, rfl, rfl⟩
  all_goals
    go_enter Try.func12, Try.ntmps12
    go_wp2
    go_ret2
    exact ⟨rfl, Below.refl _ _⟩

theorem lead_good {o : Int} (h1 : 0 ≤ o) (h2 : o ≤ 2) : Lead o (64 * o) true := by
  unfold Lead
  rcases (by omega : o = 0 ∨ o = 1 ∨ o = 2) with rfl | rfl | rfl
  · exact .inl ⟨rfl, rfl, rfl⟩
  · exact .inr (.inl ⟨rfl, rfl, rfl⟩)
  · exact .inr (.inr (.inl ⟨rfl, rfl, rfl⟩))
theorem lead_bad {o : Int} (h : ¬ (0 ≤ o ∧ o ≤ 2)) : Lead o 0 false := .inr (.inr (.inr ⟨by omega, rfl, rfl⟩))

set_option maxHeartbeats 1000000 in
theorem good_any (w : World) (o f r : Int) : Calls Try.prog 10 #[addr o f r] w fun e w' => e = .returned (.bool (goodB o f r)) ∧ Below w.heap.size w w' := by
  have B0 := Lib.hid ((Below.refl w.heap.size w).alloc (Nat.le_refl _) (.cells #[.int .i64 o, .int .i64 f, .int .i64 r] 23))
  unfold addr
  by_cases h0 : 0 ≤ o ∧ o ≤ 2
  · have L := Lib.hid (lead_good h0.1 h0.2)
    obtain ⟨h1, h2⟩ := h0
    go_enter Try.func10, Try.ntmps10
    go_wp2_with fail
    refine (lead_any _ o _ _ L.out).mono ?_
    rintro e w1 ⟨rfl, b1⟩
    have B1 := Lib.hid (B0.out.trans (b1.mono B0.out.size))
    have c1 : w1.cell? ⟨w.heap.size, 1, none⟩ = some (.int .i64 f) := (b1.cell (by simp)).trans (by go_simp)
    have c2 : w1.cell? ⟨w.heap.size, 2, none⟩ = some (.int .i64 r) := (b1.cell (by simp)).trans (by go_simp)
    clear b1 B0 L
    by_cases k0 : 0 ≤ f
    · by_cases k1 : f < 64
      · by_cases k2 : 0 ≤ r
        · by_cases k3 : r < 256
          · go_wp2
            go_ret
            exact ⟨ret_bool (by first | exact (decide_eq_true (show good o f r from ⟨by omega, by omega, by omega, by omega, by omega, by omega⟩)).symm | exact (decide_eq_false (show ¬ good o f r from fun g => by obtain ⟨_, _, _, _, _, _⟩ := g; omega)).symm | exact decide_eq_decide.2 ⟨fun h => absurd h (by omega), fun g => absurd g.2.2.2.2.2 (by omega)⟩), B1.out⟩
          · go_wp2
            go_ret
            exact ⟨ret_bool (by first | exact (decide_eq_true (show good o f r from ⟨by omega, by omega, by omega, by omega, by omega, by omega⟩)).symm | exact (decide_eq_false (show ¬ good o f r from fun g => by obtain ⟨_, _, _, _, _, _⟩ := g; omega)).symm | exact decide_eq_decide.2 ⟨fun h => absurd h (by omega), fun g => absurd g.2.2.2.2.2 (by omega)⟩), B1.out⟩
        · go_wp2
          go_ret
          exact ⟨ret_bool (by first | exact (decide_eq_true (show good o f r from ⟨by omega, by omega, by omega, by omega, by omega, by omega⟩)).symm | exact (decide_eq_false (show ¬ good o f r from fun g => by obtain ⟨_, _, _, _, _, _⟩ := g; omega)).symm | exact decide_eq_decide.2 ⟨fun h => absurd h (by omega), fun g => absurd g.2.2.2.2.2 (by omega)⟩), B1.out⟩
      · go_wp2
        go_ret
        exact ⟨ret_bool (by first | exact (decide_eq_true (show good o f r from ⟨by omega, by omega, by omega, by omega, by omega, by omega⟩)).symm | exact (decide_eq_false (show ¬ good o f r from fun g => by obtain ⟨_, _, _, _, _, _⟩ := g; omega)).symm | exact decide_eq_decide.2 ⟨fun h => absurd h (by omega), fun g => absurd g.2.2.2.2.2 (by omega)⟩), B1.out⟩
    · go_wp2
      go_ret
      exact ⟨ret_bool (by first | exact (decide_eq_true (show good o f r from ⟨by omega, by omega, by omega, by omega, by omega, by omega⟩)).symm | exact (decide_eq_false (show ¬ good o f r from fun g => by obtain ⟨_, _, _, _, _, _⟩ := g; omega)).symm | exact decide_eq_decide.2 ⟨fun h => absurd h (by omega), fun g => absurd g.2.2.2.2.2 (by omega)⟩), B1.out⟩
  · have L := Lib.hid (lead_bad h0)
    go_enter Try.func10, Try.ntmps10
    go_wp2_with fail
    refine (lead_any _ o _ _ L.out).mono ?_
    rintro e w1 ⟨rfl, b1⟩
    have B1 := Lib.hid (B0.out.trans (b1.mono B0.out.size))
    have c1 : w1.cell? ⟨w.heap.size, 1, none⟩ = some (.int .i64 f) := (b1.cell (by simp)).trans (by go_simp)
    have c2 : w1.cell? ⟨w.heap.size, 2, none⟩ = some (.int .i64 r) := (b1.cell (by simp)).trans (by go_simp)
    clear b1 B0 L
    go_wp2
    go_ret
    exact ⟨ret_bool (by first | exact (decide_eq_true (show good o f r from ⟨by omega, by omega, by omega, by omega, by omega, by omega⟩)).symm | exact (decide_eq_false (show ¬ good o f r from fun g => by obtain ⟨_, _, _, _, _, _⟩ := g; omega)).symm | exact decide_eq_decide.2 ⟨fun h => absurd h (by omega), fun g => absurd g.2.2.2.2.2 (by omega)⟩), B1.out⟩

set_option maxHeartbeats 400000 in
theorem put_any (w : World) (o f r : Int) : Calls Try.prog 5 #[addr o f r] w (PutPost w o f r) := by
  have B0 := Lib.hid (((Below.refl w.heap.size w).alloc (Nat.le_refl _) (.cells #[.int .i64 o, .int .i64 f, .int .i64 r] 23)).alloc (by simp) (.cells #[.int .u8 0, .int .u8 0] 24))
  by_cases hg : good o f r
  · have GA := Lib.hid (at_bool (show goodB o f r = true from decide_eq_true hg) (good_any ((w.alloc (.cells #[.int .i64 o, .int .i64 f, .int .i64 r] 23)).alloc (.cells #[.int .u8 0, .int .u8 0] 24)) o f r))
    have HG := Lib.hid hg
    obtain ⟨g1, g2, g3, g4, g5, g6⟩ := hg
    have L := Lib.hid (lead_good g1 g2)
    unfold addr at *
    go_enter Try.func5, Try.ntmps5
    go_wp2_with fail
    refine GA.out.mono ?_
    rintro e w1 ⟨rfl, b1⟩
    have B1 := Lib.hid (B0.out.trans (b1.mono B0.out.size))
    have c0 : w1.cell? ⟨w.heap.size, 0, none⟩ = some (.int .i64 o) := (b1.cell (by simp; omega)).trans (by go_simp)
    have c1 : w1.cell? ⟨w.heap.size, 1, none⟩ = some (.int .i64 f) := (b1.cell (by simp; omega)).trans (by go_simp)
    have c2 : w1.cell? ⟨w.heap.size, 2, none⟩ = some (.int .i64 r) := (b1.cell (by simp; omega)).trans (by go_simp)
    have k0 : w1.cell? ⟨w.heap.size + 1, 0, none⟩ = some (.int .u8 0) := (b1.cell (by simp)).trans (by go_simp)
    have k1 : w1.cell? ⟨w.heap.size + 1, 1, none⟩ = some (.int .u8 0) := (b1.cell (by simp)).trans (by go_simp)
    have m0 : w1.frozen? ⟨w.heap.size + 1, 0, none⟩ = false := (b1.frozen (by simp)).trans (by go_simp)
    have m1 : w1.frozen? ⟨w.heap.size + 1, 1, none⟩ = false := (b1.frozen (by simp)).trans (by go_simp)
    have hz : w.heap.size + 2 ≤ w1.heap.size := by have := b1.size; simp at this; omega
    clear b1 GA B0
    go_wp2_with fail
    refine (lead_any _ o _ _ L.out).mono ?_
    rintro e w2 ⟨rfl, b2⟩
    have B2 := Lib.hid (B1.out.trans (b2.mono B1.out.size))
    have c1' : w2.cell? ⟨w.heap.size, 1, none⟩ = some (.int .i64 f) := (b2.cell (by simp; omega)).trans c1
    have c2' : w2.cell? ⟨w.heap.size, 2, none⟩ = some (.int .i64 r) := (b2.cell (by simp; omega)).trans c2
    have k0' : w2.cell? ⟨w.heap.size + 1, 0, none⟩ = some (.int .u8 0) := (b2.cell (by simp; omega)).trans k0
    have k1' : w2.cell? ⟨w.heap.size + 1, 1, none⟩ = some (.int .u8 0) := (b2.cell (by simp; omega)).trans k1
    have m0' : w2.frozen? ⟨w.heap.size + 1, 0, none⟩ = false := (b2.frozen (by simp; omega)).trans m0
    have m1' : w2.frozen? ⟨w.heap.size + 1, 1, none⟩ = false := (b2.frozen (by simp; omega)).trans m1
    clear b2 B1 L c0 c1 c2 k0 k1 m0 m1
    go_wp2
    (try simp only [Exit.inBlock, Exit.then])
    refine bodyPost_ret (v := .tuple #[pair (64 * o + f) r, .int .i64 0]) ?_ rfl ⟨.inl ⟨HG.out, rfl⟩, ?_⟩
    · rw [results_cell_tmp rfl]; go_simp; rfl
    · exact (B2.out.setCell (by simp) _).setCell (by simp) _
  · have GA := Lib.hid (at_bool (show goodB o f r = false from decide_eq_false hg) (good_any ((w.alloc (.cells #[.int .i64 o, .int .i64 f, .int .i64 r] 23)).alloc (.cells #[.int .u8 0, .int .u8 0] 24)) o f r))
    have HG := Lib.hid hg
    clear hg
    unfold addr at *
    go_enter Try.func5, Try.ntmps5
    go_wp2_with fail
    refine GA.out.mono ?_
    rintro e w1 ⟨rfl, b1⟩
    have B1 := Lib.hid (B0.out.trans (b1.mono B0.out.size))
    have k0 : w1.cell? ⟨w.heap.size + 1, 0, none⟩ = some (.int .u8 0) := (b1.cell (by simp)).trans (by go_simp)
    have k1 : w1.cell? ⟨w.heap.size + 1, 1, none⟩ = some (.int .u8 0) := (b1.cell (by simp)).trans (by go_simp)
    have m0 : w1.frozen? ⟨w.heap.size + 1, 0, none⟩ = false := (b1.frozen (by simp)).trans (by go_simp)
    have m1 : w1.frozen? ⟨w.heap.size + 1, 1, none⟩ = false := (b1.frozen (by simp)).trans (by go_simp)
    clear b1 GA B0
    go_wp2
    (try simp only [Exit.inBlock, Exit.then])
    refine bodyPost_ret (v := .tuple #[pair 0 0, .int .i64 1]) ?_ rfl ⟨.inr ⟨HG.out, rfl⟩, ?_⟩
    · rw [results_cell_tmp rfl]; go_simp; rfl
    · exact (B1.out.setCell (by simp) _).setCell (by simp) _

set_option maxHeartbeats 1000000 in
theorem take_any (w : World) (a b : Int) (a0 : 0 ≤ a) (a1 : a ≤ 255) (b0 : 0 ≤ b) (b1 : b ≤ 255) : Calls Try.prog 7 #[pair a b] w (TakePost w a b) := by
  have q1 : a.tdiv 64 = a / 64 := Int.tdiv_eq_ediv_of_nonneg a0
  have q2 : a.tmod 64 = a % 64 := Int.tmod_eq_emod_of_nonneg a0
  have B0 := Lib.hid ((((Below.refl w.heap.size w).alloc (Nat.le_refl _) (.cells #[.int .u8 a, .int .u8 b] 24)).alloc (by simp) (.cells #[.int .i64 0, .int .i64 0, .int .i64 0] 23)).alloc (by simp; omega) (.cells #[.int .i64 (a / 64), .int .i64 (a % 64), .int .i64 b] 23))
  have GA := Lib.hid (good_any (((w.alloc (.cells #[.int .u8 a, .int .u8 b] 24)).alloc (.cells #[.int .i64 0, .int .i64 0, .int .i64 0] 23)).alloc (.cells #[.int .i64 (a / 64), .int .i64 (a % 64), .int .i64 b] 23)) (a / 64) (a % 64) b)
  have g0 : 0 ≤ a / 64 := by omega
  have g1 : a / 64 ≤ 3 := by omega
  have g2 : 0 ≤ a % 64 := by omega
  have g3 : a % 64 ≤ 63 := by omega
  have HV : Hid (192 ≤ a ↔ 3 ≤ a / 64) := ⟨fun h => by omega, fun h => by omega⟩
  by_cases h : 192 ≤ a
  · have e : goodB (a / 64) (a % 64) b = false := decide_eq_false (fun g => by obtain ⟨_, z, _⟩ := g; omega)
    rw [e] at GA
    have HH := Lib.hid h
    clear e h HV
    generalize hy1 : a / 64 = y1 at *
    generalize hy2 : a % 64 = y2 at *
    have Y1 := Lib.hid hy1
    have Y2 := Lib.hid hy2
    clear hy1 hy2
    unfold pair addr at *
    go_enter Try.func7, Try.ntmps7
    go_wp2_with fail
    refine GA.out.mono ?_
    rintro e w1 ⟨rfl, b1⟩
    have B1 := Lib.hid (B0.out.trans (b1.mono B0.out.size))
    have c0 : w1.cell? ⟨w.heap.size + 2, 0, none⟩ = some (.int .i64 y1) := (b1.cell (by simp)).trans (by go_simp)
    have c1 : w1.cell? ⟨w.heap.size + 2, 1, none⟩ = some (.int .i64 y2) := (b1.cell (by simp)).trans (by go_simp)
    have c2 : w1.cell? ⟨w.heap.size + 2, 2, none⟩ = some (.int .i64 b) := (b1.cell (by simp)).trans (by go_simp)
    have k0 : w1.cell? ⟨w.heap.size + 1, 0, none⟩ = some (.int .i64 0) := (b1.cell (by simp)).trans (by go_simp)
    have k1 : w1.cell? ⟨w.heap.size + 1, 1, none⟩ = some (.int .i64 0) := (b1.cell (by simp)).trans (by go_simp)
    have k2 : w1.cell? ⟨w.heap.size + 1, 2, none⟩ = some (.int .i64 0) := (b1.cell (by simp)).trans (by go_simp)
    have m0 : w1.frozen? ⟨w.heap.size + 1, 0, none⟩ = false := (b1.frozen (by simp)).trans (by go_simp)
    have m1 : w1.frozen? ⟨w.heap.size + 1, 1, none⟩ = false := (b1.frozen (by simp)).trans (by go_simp)
    have m2 : w1.frozen? ⟨w.heap.size + 1, 2, none⟩ = false := (b1.frozen (by simp)).trans (by go_simp)
    clear b1 GA B0
    go_wp2
    (try simp only [Exit.inBlock, Exit.then])
    refine bodyPost_ret (v := .tuple #[.agg #[.int .i64 0, .int .i64 0, .int .i64 0], .int .i64 2]) ?_ rfl ⟨.inr ⟨HH.out, rfl⟩, ?_⟩
    · rw [results_cell_tmp rfl]; go_simp; try rfl
    · exact ((B1.out.setCell (by simp) _).setCell (by simp) _).setCell (by simp) _
  · have e : goodB (a / 64) (a % 64) b = true := decide_eq_true (show good (a / 64) (a % 64) b from ⟨g0, by omega, g2, g3, b0, b1⟩)
    rw [e] at GA
    have HH := Lib.hid h
    clear e h HV
    generalize hy1 : a / 64 = y1 at *
    generalize hy2 : a % 64 = y2 at *
    have Y1 := Lib.hid hy1
    have Y2 := Lib.hid hy2
    clear hy1 hy2
    unfold pair addr at *
    go_enter Try.func7, Try.ntmps7
    go_wp2_with fail
    refine GA.out.mono ?_
    rintro e w1 ⟨rfl, b1⟩
    have B1 := Lib.hid (B0.out.trans (b1.mono B0.out.size))
    have c0 : w1.cell? ⟨w.heap.size + 2, 0, none⟩ = some (.int .i64 y1) := (b1.cell (by simp)).trans (by go_simp)
    have c1 : w1.cell? ⟨w.heap.size + 2, 1, none⟩ = some (.int .i64 y2) := (b1.cell (by simp)).trans (by go_simp)
    have c2 : w1.cell? ⟨w.heap.size + 2, 2, none⟩ = some (.int .i64 b) := (b1.cell (by simp)).trans (by go_simp)
    have k0 : w1.cell? ⟨w.heap.size + 1, 0, none⟩ = some (.int .i64 0) := (b1.cell (by simp)).trans (by go_simp)
    have k1 : w1.cell? ⟨w.heap.size + 1, 1, none⟩ = some (.int .i64 0) := (b1.cell (by simp)).trans (by go_simp)
    have k2 : w1.cell? ⟨w.heap.size + 1, 2, none⟩ = some (.int .i64 0) := (b1.cell (by simp)).trans (by go_simp)
    have m0 : w1.frozen? ⟨w.heap.size + 1, 0, none⟩ = false := (b1.frozen (by simp)).trans (by go_simp)
    have m1 : w1.frozen? ⟨w.heap.size + 1, 1, none⟩ = false := (b1.frozen (by simp)).trans (by go_simp)
    have m2 : w1.frozen? ⟨w.heap.size + 1, 2, none⟩ = false := (b1.frozen (by simp)).trans (by go_simp)
    clear b1 GA B0
    go_wp2
    (try simp only [Exit.inBlock, Exit.then])
    refine bodyPost_ret (v := .tuple #[.agg #[.int .i64 y1, .int .i64 y2, .int .i64 b], .int .i64 0]) ?_ rfl ⟨.inl ⟨by have := HH.out; omega, by rw [Y1.out, Y2.out]; rfl⟩, ?_⟩
    · rw [results_cell_tmp rfl]; go_simp; try rfl
    · exact ((B1.out.setCell (by simp) _).setCell (by simp) _).setCell (by simp) _

end Go.Proofs.Ytmikioafnbpciaa.Ad
