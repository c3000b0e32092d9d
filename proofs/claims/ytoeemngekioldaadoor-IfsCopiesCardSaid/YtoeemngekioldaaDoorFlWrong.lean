/- file.wrong: which error Do tells. -/
import Derived.Test.YtoeemngekioldaaDoorFlGood
namespace Go.Proofs.YtoeemngekioldaaDoor.Fl
open Go.RowKit
open Go.Proofs.YtoeemngekioldaaDoor.Rw (Rd Ow At)

theorem at_int {P : Program} {f : Nat} {args : Array Value} {w : World} {B : Nat} {k : IntKind} {a b : Int} (e : a = b) (c : Calls P f args w fun e w' => e = .returned (.int k a) ∧ Below B w w') : Calls P f args w fun e w' => e = .returned (.int k b) ∧ Below B w w' := by rw [← e]; exact c
theorem ret_int {k : IntKind} {a b : Int} (h : a = b) : Ending.returned (.int k a) = .returned (.int k b) := by rw [h]
theorem needsN_of {op : Int} (h : 0 ≤ op ∧ op ≤ 2) : needsN op = need op := by unfold needsN; rw [if_pos h]
theorem needsN_no {op : Int} (h : ¬ (0 ≤ op ∧ op ≤ 2)) : needsN op = 0 := by unfold needsN; rw [if_neg h]
theorem need_pos (op : Int) : 0 < need op := by unfold need; split <;> (try split) <;> omega

set_option maxHeartbeats 1000000 in
theorem wrong_any (w : World) (p : Int) (v : Value) (l : List R4) (R : Rd K4 w v l) (op rec : Int) : Calls Tryd.prog 48 #[file p v, .int .i64 op, .int .i64 rec] w fun e w' => e = .returned (.int .i64 (doE p l op rec)) ∧ Below w.heap.size w w' := by
  have bb := (Below.refl w.heap.size w).alloc (Nat.le_refl _) (.cells #[.int .i64 p, v] 35)
  have B0 := Lib.hid bb
  have G0 := Lib.hid (good_any _ p v l (R.below bb))
  obtain ⟨a, cap, rfl, _, hm, _⟩ := R
  unfold maxLen at hm
  clear bb
  by_cases hg : goodF p l
  · have G := Lib.hid (at_bool (show goodFB p l = true from decide_eq_true hg) G0.out)
    have hp : 0 ≤ p ∧ p ≤ 7 := ⟨hg.1, hg.2.1⟩
    by_cases ho : 0 ≤ op ∧ op ≤ 2
    · have N := Lib.hid (fun w => at_int (needsN_of ho) (needs_any w op))
      have hq := need_pos op
      by_cases hr : 0 ≤ rec ∧ rec < l.length
      · obtain ⟨hr0, hr1⟩ := hr
        have M := Lib.hid (fun w => may_any w p op rec hp.1 hp.2 ho.1 ho.2 hr0)
        by_cases hk : rec = 0 ∧ op = 0 ∨ 0 < rec ∧ p / need op % 2 = 1
        · have E := Lib.hid (doE_0 hg ho ⟨hr0, hr1⟩ hk)
          have M1 := Lib.hid (fun w => at_bool (show mayB p op rec = true from decide_eq_true hk) (M.out w))
          clear hk hg G0 M
          generalize doE p l op rec = d at *
          generalize need op = q at *
          generalize l.length = n at *
          unfold file at *
          go_enter Tryd.func48, Tryd.ntmps48
          go_wp2_with fail
          refine G.out.mono ?_
          rintro e w1 ⟨rfl, b1⟩
          have B1 := Lib.hid (B0.out.trans (b1.mono B0.out.size))
          have c0 : w1.cell? ⟨w.heap.size, 0, none⟩ = some (.int .i64 p) := (b1.cell (by simp)).trans (by go_simp)
          have c1 : w1.cell? ⟨w.heap.size, 1, none⟩ = some (.slice a n cap) := (b1.cell (by simp)).trans (by go_simp)
          clear b1 B0 G
          go_wp2_with fail
          refine (N.out _).mono ?_
          rintro e w2 ⟨rfl, b2⟩
          have lt : w.heap.size < w1.heap.size := World.block_lt_of_cell? _ _ c0
          have B2 := Lib.hid (B1.out.trans (b2.mono B1.out.size))
          have d0 : w2.cell? ⟨w.heap.size, 0, none⟩ = some (.int .i64 p) := (b2.cell lt).trans c0
          have d1 : w2.cell? ⟨w.heap.size, 1, none⟩ = some (.slice a n cap) := (b2.cell lt).trans c1
          clear b2 B1 N c0 c1 lt
          go_wp2_with fail
          refine (M1.out _).mono ?_
          rintro e w3 ⟨rfl, b3⟩
          have B3 := Lib.hid (B2.out.trans (b3.mono B2.out.size))
          clear b3 B2 M1
          go_wp2
          go_ret
          exact ⟨ret_int E.out.symm, B3.out⟩
        · have E := Lib.hid (doE_5 hg ho ⟨hr0, hr1⟩ hk)
          have M1 := Lib.hid (fun w => at_bool (show mayB p op rec = false from decide_eq_false hk) (M.out w))
          clear hk hg G0 M
          generalize doE p l op rec = d at *
          generalize need op = q at *
          generalize l.length = n at *
          unfold file at *
          go_enter Tryd.func48, Tryd.ntmps48
          go_wp2_with fail
          refine G.out.mono ?_
          rintro e w1 ⟨rfl, b1⟩
          have B1 := Lib.hid (B0.out.trans (b1.mono B0.out.size))
          have c0 : w1.cell? ⟨w.heap.size, 0, none⟩ = some (.int .i64 p) := (b1.cell (by simp)).trans (by go_simp)
          have c1 : w1.cell? ⟨w.heap.size, 1, none⟩ = some (.slice a n cap) := (b1.cell (by simp)).trans (by go_simp)
          clear b1 B0 G
          go_wp2_with fail
          refine (N.out _).mono ?_
          rintro e w2 ⟨rfl, b2⟩
          have lt : w.heap.size < w1.heap.size := World.block_lt_of_cell? _ _ c0
          have B2 := Lib.hid (B1.out.trans (b2.mono B1.out.size))
          have d0 : w2.cell? ⟨w.heap.size, 0, none⟩ = some (.int .i64 p) := (b2.cell lt).trans c0
          have d1 : w2.cell? ⟨w.heap.size, 1, none⟩ = some (.slice a n cap) := (b2.cell lt).trans c1
          clear b2 B1 N c0 c1 lt
          go_wp2_with fail
          refine (M1.out _).mono ?_
          rintro e w3 ⟨rfl, b3⟩
          have B3 := Lib.hid (B2.out.trans (b3.mono B2.out.size))
          clear b3 B2 M1
          go_wp2
          go_ret
          exact ⟨ret_int E.out.symm, B3.out⟩
      · have E := Lib.hid (doE_4 hg ho hr)
        clear hg G0
        have hr' : rec < 0 ∨ (0 ≤ rec ∧ (l.length : Int) ≤ rec) := by omega
        clear hr
        generalize doE p l op rec = d at *
        generalize need op = q at *
        generalize l.length = n at *
        unfold file at *
        rcases hr' with hr | ⟨hr, hr2⟩
        all_goals
          go_enter Tryd.func48, Tryd.ntmps48
          go_wp2_with fail
          refine G.out.mono ?_
          rintro e w1 ⟨rfl, b1⟩
          have B1 := Lib.hid (B0.out.trans (b1.mono B0.out.size))
          have c0 : w1.cell? ⟨w.heap.size, 0, none⟩ = some (.int .i64 p) := (b1.cell (by simp)).trans (by go_simp)
          have c1 : w1.cell? ⟨w.heap.size, 1, none⟩ = some (.slice a n cap) := (b1.cell (by simp)).trans (by go_simp)
          clear b1 B0 G
          go_wp2_with fail
          refine (N.out _).mono ?_
          rintro e w2 ⟨rfl, b2⟩
          have lt : w.heap.size < w1.heap.size := World.block_lt_of_cell? _ _ c0
          have B2 := Lib.hid (B1.out.trans (b2.mono B1.out.size))
          have d0 : w2.cell? ⟨w.heap.size, 0, none⟩ = some (.int .i64 p) := (b2.cell lt).trans c0
          have d1 : w2.cell? ⟨w.heap.size, 1, none⟩ = some (.slice a n cap) := (b2.cell lt).trans c1
          clear b2 B1 N c0 c1 lt
          go_wp2
          go_ret
          exact ⟨ret_int E.out.symm, B2.out⟩
    · have E := Lib.hid (doE_1 (rec := rec) hg ho)
      have N := Lib.hid (fun w => at_int (needsN_no ho) (needs_any w op))
      clear hg G0 ho
      generalize doE p l op rec = d at *
      generalize l.length = n at *
      unfold file at *
      go_enter Tryd.func48, Tryd.ntmps48
      go_wp2_with fail
      refine G.out.mono ?_
      rintro e w1 ⟨rfl, b1⟩
      have B1 := Lib.hid (B0.out.trans (b1.mono B0.out.size))
      clear b1 B0 G
      go_wp2_with fail
      refine (N.out _).mono ?_
      rintro e w2 ⟨rfl, b2⟩
      have B2 := Lib.hid (B1.out.trans (b2.mono B1.out.size))
      clear b2 B1 N
      go_wp2
      go_ret
      exact ⟨ret_int E.out.symm, B2.out⟩
  · have E := Lib.hid (doE_2 (op := op) (rec := rec) hg)
    have G := Lib.hid (at_bool (show goodFB p l = false from decide_eq_false hg) G0.out)
    clear hg G0
    generalize doE p l op rec = d at *
    generalize l.length = n at *
    unfold file at *
    go_enter Tryd.func48, Tryd.ntmps48
    go_wp2_with fail
    refine G.out.mono ?_
    rintro e w1 ⟨rfl, b1⟩
    have B1 := Lib.hid (B0.out.trans (b1.mono B0.out.size))
    clear b1 B0 G
    go_wp2
    go_ret
    exact ⟨ret_int E.out.symm, B1.out⟩

end Go.Proofs.YtoeemngekioldaaDoor.Fl
