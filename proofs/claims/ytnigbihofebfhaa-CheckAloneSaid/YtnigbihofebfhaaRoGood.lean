/- rodl.isPlace, end, Good: which entries may be. -/
import Derived.Test.YtnigbihofebfhaaRoMem
import Derived.Test.YtnigbihofebfhaaQk
namespace Go.Proofs.Ytnigbihofebfhaa.Ro
open Go.RowKit
open Go.Proofs.Ytnigbihofebfhaa.Rw (Rd Ow At)
open Go.Proofs.Ytnigbihofebfhaa.Fl (R4 z4 rec4 K4 okR hdr rat goodF ret_bool at_bool)
attribute [local irreducible] wpQuiet

theorem results_ent {fn : Func} {p : Tmp} (h : fn.results = #[.cell p 30]) (tmps : Array Value) (w : World) (g : Nat) (x : E5) (hp : tmps.getD p undef = .pointer (some ⟨g, 0, none⟩)) (hrow : w.heap[g]? = some (.cells #[.int .i64 x.1, .int .i64 x.2.1, .int .i64 x.2.2.1, .int .i64 x.2.2.2.1, .int .i64 x.2.2.2.2] 30 (0, 0))) :
    (results fn tmps).run Try.prog w = .ok (ent x) w := results_cell_row h tmps w g _ #[.int .i64 x.1, .int .i64 x.2.1, .int .i64 x.2.2.1, .int .i64 x.2.2.2.1, .int .i64 x.2.2.2.2] _ _ hp hrow Try.underlying30 rfl (by show _ = some 5; kernel_rfl)

/-- A whole entry is stored. -/
def sto5 (w : World) (g : Nat) (x : E5) : World := ((((w.setCell ⟨g, 0, none⟩ (.int .i64 x.1)).setCell ⟨g, 1, none⟩ (.int .i64 x.2.1)).setCell ⟨g, 2, none⟩ (.int .i64 x.2.2.1)).setCell ⟨g, 3, none⟩ (.int .i64 x.2.2.2.1)).setCell ⟨g, 4, none⟩ (.int .i64 x.2.2.2.2)
def row5 (x : E5) : Array Value := #[.int .i64 x.1, .int .i64 x.2.1, .int .i64 x.2.2.1, .int .i64 x.2.2.2.1, .int .i64 x.2.2.2.2]
theorem sto5_row {w : World} {g : Nat} {q : E5} (h : w.heap[g]? = some (.cells (row5 q) 30 (0, 0))) (x : E5) : (sto5 w g x).heap[g]? = some (.cells (row5 x) 30 (0, 0)) :=
  Rw.heap_setCell_same (Rw.heap_setCell_same (Rw.heap_setCell_same (Rw.heap_setCell_same (Rw.heap_setCell_same h _) _) _) _) _
theorem sto5_below {w W : World} {B g : Nat} {x : E5} (h : Below B w W) (hb : B ≤ g) : Below B w (sto5 W g x) :=
  ((((h.setCell (p := ⟨g, 0, none⟩) hb _).setCell (p := ⟨g, 1, none⟩) hb _).setCell (p := ⟨g, 2, none⟩) hb _).setCell (p := ⟨g, 3, none⟩) hb _).setCell (p := ⟨g, 4, none⟩) hb _

set_option maxHeartbeats 400000 in
theorem end_any (w : World) : Calls Try.prog 27 #[] w fun e w' => e = .returned (ent endE) ∧ Below w.heap.size w w' := by
  go_enter Try.func27, Try.ntmps27
  go_wp2
  (try simp only [Exit.inBlock, Exit.then])
  refine bodyPost_ret (v := ent endE) ?_ rfl ⟨rfl, ?_⟩
  · exact results_cell_row (p := 0) rfl _ _ w.heap.size 30 _ (0, 0) _ rfl (heap_alloc_new w _) Try.underlying30 rfl (by show _ = some 5; kernel_rfl)
  · exact (Below.refl w.heap.size w).alloc (Nat.le_refl _) _

set_option maxHeartbeats 1000000 in
theorem place_any (w : World) (k s f r b : Int) : Calls Try.prog 31 #[.agg #[.int .i64 k, .int .i64 s, .int .i64 f, .int .i64 r, .int .i64 b]] w fun e w' => e = .returned (.bool (placeB s f r)) ∧ Below w.heap.size w w' := by
  have B0 := Lib.hid ((Below.refl w.heap.size w).alloc (Nat.le_refl _) (.cells #[.int .i64 k, .int .i64 s, .int .i64 f, .int .i64 r, .int .i64 b] 30))
  by_cases h1 : 1 ≤ s
  · by_cases h2 : s ≤ 16
    · by_cases h3 : 0 ≤ f
      · by_cases h4 : f < 64
        · by_cases h5 : 1 ≤ r
          · by_cases h6 : r < 256
            · have E : Hid (true = placeB s f r) := Lib.hid (decide_eq_true (show place s f r by unfold place; omega)).symm
              go_enter Try.func31, Try.ntmps31
              go_wp2
              go_ret
              exact ⟨ret_bool E.out, B0.out⟩
            · have E : Hid (false = placeB s f r) := Lib.hid (decide_eq_false (show ¬ place s f r by unfold place; omega)).symm
              go_enter Try.func31, Try.ntmps31
              go_wp2
              go_ret
              exact ⟨ret_bool E.out, B0.out⟩
          · have E : Hid (false = placeB s f r) := Lib.hid (decide_eq_false (show ¬ place s f r by unfold place; omega)).symm
            go_enter Try.func31, Try.ntmps31
            go_wp2
            go_ret
            exact ⟨ret_bool E.out, B0.out⟩
        · have E : Hid (false = placeB s f r) := Lib.hid (decide_eq_false (show ¬ place s f r by unfold place; omega)).symm
          go_enter Try.func31, Try.ntmps31
          go_wp2
          go_ret
          exact ⟨ret_bool E.out, B0.out⟩
      · have E : Hid (false = placeB s f r) := Lib.hid (decide_eq_false (show ¬ place s f r by unfold place; omega)).symm
        go_enter Try.func31, Try.ntmps31
        go_wp2
        go_ret
        exact ⟨ret_bool E.out, B0.out⟩
    · have E : Hid (false = placeB s f r) := Lib.hid (decide_eq_false (show ¬ place s f r by unfold place; omega)).symm
      go_enter Try.func31, Try.ntmps31
      go_wp2
      go_ret
      exact ⟨ret_bool E.out, B0.out⟩
  · have E : Hid (false = placeB s f r) := Lib.hid (decide_eq_false (show ¬ place s f r by unfold place; omega)).symm
    go_enter Try.func31, Try.ntmps31
    go_wp2
    go_ret
    exact ⟨ret_bool E.out, B0.out⟩

set_option maxHeartbeats 1000000 in
/-- An entry that is to be sent, received or executed. -/
theorem good_act (w : World) (k s f r b L : Int) (hk : (k = 1 ∨ k = 2) ∧ L = 3 ∨ k = 3 ∧ L = 0) : Calls Try.prog 28 #[.agg #[.int .i64 k, .int .i64 s, .int .i64 f, .int .i64 r, .int .i64 b]] w fun e w' => e = .returned (.bool (okB (k, s, f, r, b))) ∧ Below w.heap.size w w' := by
  have B0 := Lib.hid ((Below.refl w.heap.size w).alloc (Nat.le_refl _) (.cells #[.int .i64 k, .int .i64 s, .int .i64 f, .int .i64 r, .int .i64 b] 30))
  have EQ : Hid (okE (k, s, f, r, b) ↔ place s f r ∧ 0 ≤ b ∧ b ≤ L) := Lib.hid (by
    unfold okE place
    simp only
    omega)
  have PA := Lib.hid (fun w => place_any w k s f r b)
  by_cases hp : place s f r
  · have PP := Lib.hid (decide_eq_true hp)
    unfold placeB at PA
    rw [PP.out] at PA
    have HP := Lib.hid hp
    clear hp PP
    by_cases h1 : 0 ≤ b
    · have E : Hid (decide (b ≤ L) = okB (k, s, f, r, b)) := Lib.hid (decide_eq_decide.2 ⟨fun h => EQ.out.2 ⟨HP.out, h1, h⟩, fun h => (EQ.out.1 h).2.2⟩)
      clear EQ HP
      rcases hk with ⟨rfl | rfl, rfl⟩ | ⟨rfl, rfl⟩
      all_goals
        go_enter Try.func28, Try.ntmps28
        go_wp2_with fail
        refine (PA.out _).mono ?_
        rintro e w1 ⟨rfl, b1⟩
        have c4 : w1.cell? ⟨w.heap.size, 4, none⟩ = some (.int .i64 b) := (b1.cell (by simp)).trans (by go_simp)
        have B1 := Lib.hid (B0.out.trans (b1.mono B0.out.size))
        clear b1
        go_wp2
        go_ret
        exact ⟨ret_bool E.out, B1.out⟩
    · have E : Hid (false = okB (k, s, f, r, b)) := Lib.hid (decide_eq_false (fun h => h1 (EQ.out.1 h).2.1)).symm
      clear EQ HP
      rcases hk with ⟨rfl | rfl, rfl⟩ | ⟨rfl, rfl⟩
      all_goals
        go_enter Try.func28, Try.ntmps28
        go_wp2_with fail
        refine (PA.out _).mono ?_
        rintro e w1 ⟨rfl, b1⟩
        have c4 : w1.cell? ⟨w.heap.size, 4, none⟩ = some (.int .i64 b) := (b1.cell (by simp)).trans (by go_simp)
        have B1 := Lib.hid (B0.out.trans (b1.mono B0.out.size))
        clear b1
        go_wp2
        go_ret
        exact ⟨ret_bool E.out, B1.out⟩
  · have E : Hid (false = okB (k, s, f, r, b)) := Lib.hid (decide_eq_false (fun h => hp (EQ.out.1 h).1)).symm
    have PP := Lib.hid (decide_eq_false hp)
    unfold placeB at PA
    rw [PP.out] at PA
    clear hp PP EQ
    rcases hk with ⟨rfl | rfl, rfl⟩ | ⟨rfl, rfl⟩
    all_goals
      go_enter Try.func28, Try.ntmps28
      go_wp2_with fail
      refine (PA.out _).mono ?_
      rintro e w1 ⟨rfl, b1⟩
      have c4 : w1.cell? ⟨w.heap.size, 4, none⟩ = some (.int .i64 b) := (b1.cell (by simp)).trans (by go_simp)
      have B1 := Lib.hid (B0.out.trans (b1.mono B0.out.size))
      clear b1
      go_wp2
      go_ret
      exact ⟨ret_bool E.out, B1.out⟩

set_option maxHeartbeats 1000000 in
theorem good_end (w : World) (s f r b : Int) : Calls Try.prog 28 #[.agg #[.int .i64 4, .int .i64 s, .int .i64 f, .int .i64 r, .int .i64 b]] w fun e w' => e = .returned (.bool (okB (4, s, f, r, b))) ∧ Below w.heap.size w w' := by
  have B0 := Lib.hid ((Below.refl w.heap.size w).alloc (Nat.le_refl _) (.cells #[.int .i64 4, .int .i64 s, .int .i64 f, .int .i64 r, .int .i64 b] 30))
  have EQ : okE (4, s, f, r, b) ↔ (s = 0 ∧ f = 0 ∧ r = 0 ∧ b = 0) := ⟨fun h => by
    rcases h with h | h
    · exact absurd h.2.1 (show ¬ (4 : Int) ≤ 3 by decide)
    · exact h.2, fun h => .inr ⟨rfl, h⟩⟩
  have E : Hid ((decide (s = 0) && (decide (f = 0) && (decide (r = 0) && decide (b = 0)))) = okB (4, s, f, r, b)) := Lib.hid (by
    rw [show okB (4, s, f, r, b) = decide (s = 0 ∧ f = 0 ∧ r = 0 ∧ b = 0) from decide_eq_decide.2 EQ]
    simp only [Bool.decide_and])
  clear EQ
  have es := eq_ent ((4 : Int), s, f, r, b) endE
  simp only [endE] at es
  have EE := Lib.hid (fun w => end_any w)
  unfold ent at EE
  simp only [endE] at EE
  have k0 := Qb.cell_by (show (w.alloc (.cells #[.int .i64 4, .int .i64 s, .int .i64 f, .int .i64 r, .int .i64 b] 30)).cell? ⟨w.heap.size, 0, none⟩ = some (.int .i64 4) by go_simp)
  have k1 := Qb.cell_by (show (w.alloc (.cells #[.int .i64 4, .int .i64 s, .int .i64 f, .int .i64 r, .int .i64 b] 30)).cell? ⟨w.heap.size, 1, none⟩ = some (.int .i64 s) by go_simp)
  have k2 := Qb.cell_by (show (w.alloc (.cells #[.int .i64 4, .int .i64 s, .int .i64 f, .int .i64 r, .int .i64 b] 30)).cell? ⟨w.heap.size, 2, none⟩ = some (.int .i64 f) by go_simp)
  have k3 := Qb.cell_by (show (w.alloc (.cells #[.int .i64 4, .int .i64 s, .int .i64 f, .int .i64 r, .int .i64 b] 30)).cell? ⟨w.heap.size, 3, none⟩ = some (.int .i64 r) by go_simp)
  have k4 := Qb.cell_by (show (w.alloc (.cells #[.int .i64 4, .int .i64 s, .int .i64 f, .int .i64 r, .int .i64 b] 30)).cell? ⟨w.heap.size, 4, none⟩ = some (.int .i64 b) by go_simp)
  go_enter Try.func28, Try.ntmps28
  go_wp2_with fail
  refine Qb.wp_region_by (by kernel_rfl) (by kernel_rfl) ?_
  repeat (quiet_step ((go_at_call 27; with_reducible exact Qb.of_below (EE.out _))))
  refine wpQuiet_nil ?_
  intro _ hw'
  obtain ⟨pp, rfl⟩ := hw'
  go_wp2
  go_ret
  exact ⟨ret_bool E.out, B0.out.trans (pp.below.mono B0.out.size)⟩

set_option maxHeartbeats 400000 in
theorem good_else (w : World) (k s f r b : Int) (h1 : k ≠ 1) (h2 : k ≠ 2) (h3 : k ≠ 3) (h4 : k ≠ 4) : Calls Try.prog 28 #[.agg #[.int .i64 k, .int .i64 s, .int .i64 f, .int .i64 r, .int .i64 b]] w fun e w' => e = .returned (.bool (okB (k, s, f, r, b))) ∧ Below w.heap.size w w' := by
  have B0 := Lib.hid ((Below.refl w.heap.size w).alloc (Nat.le_refl _) (.cells #[.int .i64 k, .int .i64 s, .int .i64 f, .int .i64 r, .int .i64 b] 30))
  have E : Hid (false = okB (k, s, f, r, b)) := Lib.hid (decide_eq_false (show ¬ okE (k, s, f, r, b) by unfold okE; simp only; omega)).symm
  go_enter Try.func28, Try.ntmps28
  go_wp2
  go_ret
  exact ⟨ret_bool E.out, B0.out⟩

theorem good_any (w : World) (x : E5) : Calls Try.prog 28 #[ent x] w fun e w' => e = .returned (.bool (okB x)) ∧ Below w.heap.size w w' := by
  obtain ⟨k, s, f, r, b⟩ := x
  show Calls Try.prog 28 #[.agg #[.int .i64 k, .int .i64 s, .int .i64 f, .int .i64 r, .int .i64 b]] w _
  by_cases h1 : k = 1
  · exact good_act w k s f r b 3 (.inl ⟨.inl h1, rfl⟩)
  · by_cases h2 : k = 2
    · exact good_act w k s f r b 3 (.inl ⟨.inr h2, rfl⟩)
    · by_cases h3 : k = 3
      · exact good_act w k s f r b 0 (.inr ⟨h3, rfl⟩)
      · by_cases h4 : k = 4
        · subst h4; exact good_end w s f r b
        · exact good_else w k s f r b h1 h2 h3 h4

end Go.Proofs.Ytnigbihofebfhaa.Ro
