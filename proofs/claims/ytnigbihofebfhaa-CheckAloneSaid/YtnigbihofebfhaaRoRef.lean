/- The document's own functions of layer 11: which entries may be, their records, and records' entries; lists held against each other. -/
import Derived.Test.YtnigbihofebfhaaRoGood
namespace Go.Proofs.Ytnigbihofebfhaa.Ro
open Go.RowKit
open Go.Proofs.Ytnigbihofebfhaa.Rw (Rd Ow At)
open Go.Proofs.Ytnigbihofebfhaa.Fl (R4 z4 rec4 K4 okR hdr rat goodF ret_bool at_bool)

set_option maxHeartbeats 1000000 in
theorem rgood_end (w : World) (s f r b : Int) : Calls Try.prog 22 #[.agg #[.int .i64 4, .int .i64 s, .int .i64 f, .int .i64 r, .int .i64 b]] w fun e w' => e = .returned (.bool (okB (4, s, f, r, b))) ∧ Below w.heap.size w w' := by
  have B0 := Lib.hid ((Below.refl w.heap.size w).alloc (Nat.le_refl _) (.cells #[.int .i64 4, .int .i64 s, .int .i64 f, .int .i64 r, .int .i64 b] 30))
  have EQ : okE (4, s, f, r, b) ↔ (s = 0 ∧ f = 0 ∧ r = 0 ∧ b = 0) := ⟨fun h => by
    rcases h with h | h
    · exact absurd h.2.1 (show ¬ (4 : Int) ≤ 3 by decide)
    · exact h.2, fun h => .inr ⟨rfl, h⟩⟩
  have EB : Hid (okB (4, s, f, r, b) = decide (s = 0 ∧ f = 0 ∧ r = 0 ∧ b = 0)) := Lib.hid (decide_eq_decide.2 EQ)
  clear EQ
  rw [EB.out]
  clear EB
  by_cases h0 : s = 0
  · by_cases h1 : f = 0
    · by_cases h2 : r = 0
      · have E : Hid (decide (b = 0) = decide (s = 0 ∧ f = 0 ∧ r = 0 ∧ b = 0)) := Lib.hid (decide_eq_decide.2 ⟨fun h => ⟨h0, h1, h2, h⟩, fun h => h.2.2.2⟩)
        go_enter Try.func22, Try.ntmps22
        go_wp2
        go_ret
        exact ⟨ret_bool E.out, (Below.refl w.heap.size w).alloc (Nat.le_refl _) _⟩
      · have E : Hid (false = decide (s = 0 ∧ f = 0 ∧ r = 0 ∧ b = 0)) := Lib.hid (decide_eq_false (fun h => h2 h.2.2.1)).symm
        go_enter Try.func22, Try.ntmps22
        go_wp2
        go_ret
        exact ⟨ret_bool E.out, (Below.refl w.heap.size w).alloc (Nat.le_refl _) _⟩
    · have E : Hid (false = decide (s = 0 ∧ f = 0 ∧ r = 0 ∧ b = 0)) := Lib.hid (decide_eq_false (fun h => h1 h.2.1)).symm
      go_enter Try.func22, Try.ntmps22
      go_wp2
      go_ret
      exact ⟨ret_bool E.out, (Below.refl w.heap.size w).alloc (Nat.le_refl _) _⟩
  · have E : Hid (false = decide (s = 0 ∧ f = 0 ∧ r = 0 ∧ b = 0)) := Lib.hid (decide_eq_false (fun h => h0 h.1)).symm
    go_enter Try.func22, Try.ntmps22
    go_wp2
    go_ret
    exact ⟨ret_bool E.out, (Below.refl w.heap.size w).alloc (Nat.le_refl _) _⟩

set_option maxHeartbeats 400000 in
theorem rgood_low (w : World) (k s f r b : Int) (h : k < 1) : Calls Try.prog 22 #[.agg #[.int .i64 k, .int .i64 s, .int .i64 f, .int .i64 r, .int .i64 b]] w fun e w' => e = .returned (.bool (okB (k, s, f, r, b))) ∧ Below w.heap.size w w' := by
  have B0 := Lib.hid ((Below.refl w.heap.size w).alloc (Nat.le_refl _) (.cells #[.int .i64 k, .int .i64 s, .int .i64 f, .int .i64 r, .int .i64 b] 30))
  have E : Hid (false = okB (k, s, f, r, b)) := Lib.hid (decide_eq_false (show ¬ okE (k, s, f, r, b) by unfold okE; simp only; omega)).symm
  have hk1 : ¬ k = 4 := by omega
  go_enter Try.func22, Try.ntmps22
  go_wp2
  go_ret
  exact ⟨ret_bool E.out, (Below.refl w.heap.size w).alloc (Nat.le_refl _) _⟩

set_option maxHeartbeats 400000 in
theorem rgood_high (w : World) (k s f r b : Int) (h : 3 < k) (h4 : k ≠ 4) : Calls Try.prog 22 #[.agg #[.int .i64 k, .int .i64 s, .int .i64 f, .int .i64 r, .int .i64 b]] w fun e w' => e = .returned (.bool (okB (k, s, f, r, b))) ∧ Below w.heap.size w w' := by
  have B0 := Lib.hid ((Below.refl w.heap.size w).alloc (Nat.le_refl _) (.cells #[.int .i64 k, .int .i64 s, .int .i64 f, .int .i64 r, .int .i64 b] 30))
  have E : Hid (false = okB (k, s, f, r, b)) := Lib.hid (decide_eq_false (show ¬ okE (k, s, f, r, b) by unfold okE; simp only; omega)).symm
  have hk1 : ¬ k = 4 := by omega
  have hk2 : ¬ k < 1 := by omega
  go_enter Try.func22, Try.ntmps22
  go_wp2
  go_ret
  exact ⟨ret_bool E.out, (Below.refl w.heap.size w).alloc (Nat.le_refl _) _⟩

set_option maxHeartbeats 400000 in
theorem rgood_exec (w : World) (s f r b : Int) (h : b ≠ 0) : Calls Try.prog 22 #[.agg #[.int .i64 3, .int .i64 s, .int .i64 f, .int .i64 r, .int .i64 b]] w fun e w' => e = .returned (.bool (okB (3, s, f, r, b))) ∧ Below w.heap.size w w' := by
  have B0 := Lib.hid ((Below.refl w.heap.size w).alloc (Nat.le_refl _) (.cells #[.int .i64 3, .int .i64 s, .int .i64 f, .int .i64 r, .int .i64 b] 30))
  have E : Hid (false = okB (3, s, f, r, b)) := Lib.hid (decide_eq_false (show ¬ okE (3, s, f, r, b) by unfold okE; simp only; omega)).symm
  go_enter Try.func22, Try.ntmps22
  go_wp2
  go_ret
  exact ⟨ret_bool E.out, (Below.refl w.heap.size w).alloc (Nat.le_refl _) _⟩

set_option maxHeartbeats 4000000 in
theorem rgood_act (w : World) (k s f r b : Int) (hk : (k = 3 ∧ b = 0) ∨ (¬ k < 1 ∧ ¬ 3 < k ∧ ¬ k = 3 ∧ ¬ k = 4)) : Calls Try.prog 22 #[.agg #[.int .i64 k, .int .i64 s, .int .i64 f, .int .i64 r, .int .i64 b]] w fun e w' => e = .returned (.bool (okB (k, s, f, r, b))) ∧ Below w.heap.size w w' := by
  have B0 := Lib.hid ((Below.refl w.heap.size w).alloc (Nat.le_refl _) (.cells #[.int .i64 k, .int .i64 s, .int .i64 f, .int .i64 r, .int .i64 b] 30))
  have EQ : Hid (okE (k, s, f, r, b) ↔ (1 ≤ s ∧ s ≤ 16 ∧ 0 ≤ f ∧ f ≤ 63 ∧ 1 ≤ r ∧ r ≤ 255 ∧ 0 ≤ b ∧ b ≤ 3)) := Lib.hid (by
    unfold okE place
    simp only
    omega)
  by_cases h0 : 1 ≤ s
  · by_cases h1 : s ≤ 16
    · by_cases h2 : 0 ≤ f
      · by_cases h3 : f ≤ 63
        · by_cases h4 : 1 ≤ r
          · by_cases h5 : r ≤ 255
            · by_cases h6 : 0 ≤ b
              · have E : Hid (decide (b ≤ 3) = okB (k, s, f, r, b)) := Lib.hid (decide_eq_decide.2 ⟨fun h => EQ.out.2 ⟨h0, h1, h2, h3, h4, h5, h6, h⟩, fun h => (EQ.out.1 h).2.2.2.2.2.2.2⟩)
                clear EQ
                rcases hk with ⟨rfl, rfl⟩ | ⟨k1, k2, k3, k4⟩
                all_goals
                  go_enter Try.func22, Try.ntmps22
                  go_wp2
                  go_ret
                  exact ⟨ret_bool E.out, (Below.refl w.heap.size w).alloc (Nat.le_refl _) _⟩
              · have E : Hid (false = okB (k, s, f, r, b)) := Lib.hid (decide_eq_false (fun h => h6 (EQ.out.1 h).2.2.2.2.2.2.1)).symm
                clear EQ
                have hk' := hk.resolve_left (fun h => h6 (by omega))
                clear hk
                obtain ⟨k1, k2, k3, k4⟩ := hk'
                all_goals
                  go_enter Try.func22, Try.ntmps22
                  go_wp2
                  go_ret
                  exact ⟨ret_bool E.out, (Below.refl w.heap.size w).alloc (Nat.le_refl _) _⟩
            · have E : Hid (false = okB (k, s, f, r, b)) := Lib.hid (decide_eq_false (fun h => h5 (EQ.out.1 h).2.2.2.2.2.1)).symm
              clear EQ
              rcases hk with ⟨rfl, rfl⟩ | ⟨k1, k2, k3, k4⟩
              all_goals
                go_enter Try.func22, Try.ntmps22
                go_wp2
                go_ret
                exact ⟨ret_bool E.out, (Below.refl w.heap.size w).alloc (Nat.le_refl _) _⟩
          · have E : Hid (false = okB (k, s, f, r, b)) := Lib.hid (decide_eq_false (fun h => h4 (EQ.out.1 h).2.2.2.2.1)).symm
            clear EQ
            rcases hk with ⟨rfl, rfl⟩ | ⟨k1, k2, k3, k4⟩
            all_goals
              go_enter Try.func22, Try.ntmps22
              go_wp2
              go_ret
              exact ⟨ret_bool E.out, (Below.refl w.heap.size w).alloc (Nat.le_refl _) _⟩
        · have E : Hid (false = okB (k, s, f, r, b)) := Lib.hid (decide_eq_false (fun h => h3 (EQ.out.1 h).2.2.2.1)).symm
          clear EQ
          rcases hk with ⟨rfl, rfl⟩ | ⟨k1, k2, k3, k4⟩
          all_goals
            go_enter Try.func22, Try.ntmps22
            go_wp2
            go_ret
            exact ⟨ret_bool E.out, (Below.refl w.heap.size w).alloc (Nat.le_refl _) _⟩
      · have E : Hid (false = okB (k, s, f, r, b)) := Lib.hid (decide_eq_false (fun h => h2 (EQ.out.1 h).2.2.1)).symm
        clear EQ
        rcases hk with ⟨rfl, rfl⟩ | ⟨k1, k2, k3, k4⟩
        all_goals
          go_enter Try.func22, Try.ntmps22
          go_wp2
          go_ret
          exact ⟨ret_bool E.out, (Below.refl w.heap.size w).alloc (Nat.le_refl _) _⟩
    · have E : Hid (false = okB (k, s, f, r, b)) := Lib.hid (decide_eq_false (fun h => h1 (EQ.out.1 h).2.1)).symm
      clear EQ
      rcases hk with ⟨rfl, rfl⟩ | ⟨k1, k2, k3, k4⟩
      all_goals
        go_enter Try.func22, Try.ntmps22
        go_wp2
        go_ret
        exact ⟨ret_bool E.out, (Below.refl w.heap.size w).alloc (Nat.le_refl _) _⟩
  · have E : Hid (false = okB (k, s, f, r, b)) := Lib.hid (decide_eq_false (fun h => h0 (EQ.out.1 h).1)).symm
    clear EQ
    rcases hk with ⟨rfl, rfl⟩ | ⟨k1, k2, k3, k4⟩
    all_goals
      go_enter Try.func22, Try.ntmps22
      go_wp2
      go_ret
      exact ⟨ret_bool E.out, (Below.refl w.heap.size w).alloc (Nat.le_refl _) _⟩

theorem rgood_any (w : World) (x : E5) : Calls Try.prog 22 #[ent x] w fun e w' => e = .returned (.bool (okB x)) ∧ Below w.heap.size w w' := by
  obtain ⟨k, s, f, r, b⟩ := x
  show Calls Try.prog 22 #[.agg #[.int .i64 k, .int .i64 s, .int .i64 f, .int .i64 r, .int .i64 b]] w _
  by_cases h4 : k = 4
  · subst h4; exact rgood_end w s f r b
  · by_cases h1 : k < 1
    · exact rgood_low w k s f r b h1
    · by_cases h2 : 3 < k
      · exact rgood_high w k s f r b h2 h4
      · by_cases h3 : k = 3
        · by_cases h5 : b = 0
          · exact rgood_act w k s f r b (.inl ⟨h3, h5⟩)
          · subst h3; exact rgood_exec w s f r b h5
        · exact rgood_act w k s f r b (.inr ⟨h1, h2, h3, h4⟩)

end Go.Proofs.Ytnigbihofebfhaa.Ro
