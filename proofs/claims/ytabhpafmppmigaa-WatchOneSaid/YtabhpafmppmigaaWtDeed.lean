/- watch.New, Crash, Restart, Role; opener, wait, hear; Round. -/
import Derived.Test.YtabhpafmppmigaaWtRef
namespace Go.Proofs.Ytabhpafmppmigaa.Wt
open Go.RowKit
open Go.Proofs.Ytabhpafmppmigaa.Fl (ret_bool at_bool row_cell row_frozen)
open Go.Proofs.Ytabhpafmppmigaa.Fs (Only)
attribute [local irreducible] Sd.wpSd wpQuiet

def rowM (r0 z0 r1 z1 : Int) : Array Value := #[.int .i64 r0, .int .i64 z0, .int .i64 r1, .int .i64 z1]
/-- The program's pair lies in block s. -/
def RowM (w : World) (s : Nat) (r0 z0 r1 z1 : Int) : Prop := w.heap[s]? = some (.cells (rowM r0 z0 r1 z1) 43 (0, 0))
theorem RowM.only {w w' : World} {s : Nat} {r0 z0 r1 z1 : Int} {G : Nat → Prop} (h : RowM w s r0 z0 r1 z1) (o : Only G w w') (hn : ¬ G s) : RowM w' s r0 z0 r1 z1 := (o.block s (lt_of_block h) hn).trans h
section
variable {w : World} {s : Nat} {r0 z0 r1 z1 : Int} (h : RowM w s r0 z0 r1 z1)
include h
theorem RowM.below {w' : World} (b : Below w.heap.size w w') : RowM w' s r0 z0 r1 z1 := h.only (G := fun _ => False) (Only.of_below b) (fun g => g)
theorem RowM.set0 (x : Int) : RowM (w.setCell ⟨s, 0, none⟩ (.int .i64 x)) s x z0 r1 z1 := Rw.heap_setCell_same h _
theorem RowM.set1 (x : Int) : RowM (w.setCell ⟨s, 1, none⟩ (.int .i64 x)) s r0 x r1 z1 := Rw.heap_setCell_same h _
theorem RowM.set2 (x : Int) : RowM (w.setCell ⟨s, 2, none⟩ (.int .i64 x)) s r0 z0 x z1 := Rw.heap_setCell_same h _
theorem RowM.set3 (x : Int) : RowM (w.setCell ⟨s, 3, none⟩ (.int .i64 x)) s r0 z0 r1 x := Rw.heap_setCell_same h _
end
/-- For how many rounds both have been silent, of so many at most. -/
structure Vm (a : A) (z0 z1 : Int) (t : Nat) : Prop where
  b0 : 0 ≤ z0 ∧ z0 ≤ t
  b1 : 0 ≤ z1 ∧ z1 ≤ t
  e0 : a.r0 = 2 ∨ a.r0 = 3 → a.q0 = z0
  e1 : a.r1 = 2 ∨ a.r1 = 3 → a.q1 = z1
/-- The pointer to block s is a pair in state a, behind t rounds at most. -/
def Pr (w : World) (s : Nat) (a : A) (t : Nat) : Prop := ∃ z0 z1, RowM w s a.r0 z0 a.r1 z1 ∧ Vm a z0 z1 t
theorem Pr.only {w w' : World} {s t : Nat} {a : A} {G : Nat → Prop} (h : Pr w s a t) (o : Only G w w') (hn : ¬ G s) : Pr w' s a t := by
  obtain ⟨z0, z1, hr, hv⟩ := h
  exact ⟨z0, z1, hr.only o hn, hv⟩
theorem Pr.lt {w : World} {s t : Nat} {a : A} (h : Pr w s a t) : s < w.heap.size := by obtain ⟨_, _, hr, _⟩ := h; exact lt_of_block hr
def CnewPost (w : World) (e : Ending) (w' : World) : Prop := ∃ s, e = .returned (.pointer (some ⟨s, 0, none⟩)) ∧ Pr w' s new 0 ∧ w.heap.size ≤ s ∧ Below w.heap.size w w'
def CdeedPost (w : World) (s : Nat) (x : Int) (a : A) (t : Nat) (e : Ending) (w' : World) : Prop := e = .returned (.int .i64 x) ∧ Pr w' s a t ∧ Only (fun b => b = s) w w'

theorem new_any (w : World) : Calls Try.prog 6 #[] w (CnewPost w) := by
  have E : Hid (CnewPost w (.returned (.pointer (some ⟨w.heap.size, 0, none⟩))) (w.alloc (.cells #[.int .i64 1, .int .i64 0, .int .i64 2, .int .i64 0] 43))) := Lib.hid ⟨_, rfl, ⟨0, 0, heap_alloc_new w _, ⟨by decide, by decide, fun _ => rfl, fun _ => rfl⟩⟩, Nat.le_refl _, (Below.refl _ _).alloc (Nat.le_refl _) _⟩
  go_enter Try.func6, Try.ntmps6
  go_wp2
  go_ret
  exact E.out

/-! ### has -/
def hs (n : Int) : Bool := decide (0 ≤ n) && decide (n < 2)
theorem has_any (w : World) (s : Nat) (n : Int) : Calls Try.prog 16 #[.pointer (some ⟨s, 0, none⟩), .int .i64 n] w fun e w' => e = .returned (.bool (hs n)) ∧ Below w.heap.size w w' := by
  have E : Hid (hs n = (decide (0 ≤ n) && decide (n < 2))) := Lib.hid rfl
  generalize hs n = b at *
  by_cases h0 : 0 ≤ n
  · by_cases h2 : n < 2
    · obtain rfl : b = true := by rw [E.out]; simp [h0, h2]
      clear E
      go_enter Try.func16, Try.ntmps16
      go_wp2
      go_ret
      exact ⟨rfl, Below.refl _ _⟩
    · obtain rfl : b = false := by rw [E.out]; simp [h2]
      clear E
      go_enter Try.func16, Try.ntmps16
      go_wp2
      go_ret
      exact ⟨rfl, Below.refl _ _⟩
  · obtain rfl : b = false := by rw [E.out]; simp [h0]
    clear E
    go_enter Try.func16, Try.ntmps16
    go_wp2
    go_ret
    exact ⟨rfl, Below.refl _ _⟩
theorem has_nil (w : World) (n : Int) : Calls Try.prog 16 #[.pointer none, .int .i64 n] w fun e w' => e = .returned (.bool false) ∧ Below w.heap.size w w' := by
  go_enter Try.func16, Try.ntmps16
  go_wp2
  go_ret
  exact ⟨rfl, Below.refl _ _⟩
theorem hs_no {n : Int} (h0 : n ≠ 0) (h1 : n ≠ 1) : hs n = false := by
  unfold hs
  by_cases a : 0 ≤ n
  · have : ¬ n < 2 := by omega
    simp [this]
  · simp [a]

/-! ### Crash -/
set_option maxHeartbeats 1000000 in
theorem crash0 {w : World} {s t : Nat} {a : A} (P : Pr w s a t) : Calls Try.prog 8 #[.pointer (some ⟨s, 0, none⟩), .int .i64 0] w (CdeedPost w s (crE a 0) (crA a 0) t) := by
  obtain ⟨z0, z1, hr, hv⟩ := P
  have H := Lib.hid (has_any w s 0)
  rw [show hs 0 = true from rfl] at H
  have e1 : crE a 0 = if a.r0 = 4 then 10 else 0 := rfl
  have e2 : crA a 0 = { a with r0 := 4 } := rfl
  by_cases q : a.r0 = 4
  · have E : Hid (∀ w', Below w.heap.size w w' → CdeedPost w s (crE a 0) (crA a 0) t (.returned (.int .i64 10)) w') := Lib.hid fun w' b => ⟨by rw [e1, if_pos q], by rw [e2]; exact ⟨z0, z1, by have := hr.below b; rw [q] at this; exact this, ⟨hv.b0, hv.b1, (fun g => absurd g (by show ¬ ((4 : Int) = 2 ∨ (4 : Int) = 3); decide)), hv.e1⟩⟩, Only.of_below b⟩
    have R := Lib.hid hr
    rw [q] at R
    clear hr hv e1 e2
    generalize crE a 0 = x at *
    generalize crA a 0 = a' at *
    go_enter Try.func8, Try.ntmps8
    go_wp2_with fail
    refine H.out.mono ?_
    rintro e w1 ⟨rfl, b1⟩
    have c0 : w1.cell? ⟨s, 0, none⟩ = some (.int .i64 4) := row_cell (R.out.below b1) 0
    have F := Lib.hid (E.out w1 b1)
    clear R H E b1 q
    go_wp2
    go_ret
    exact F.out
  · have E : Hid (∀ w', Below w.heap.size w w' → CdeedPost w s (crE a 0) (crA a 0) t (.returned (.int .i64 0)) ((w'.setCell ⟨s, 0, none⟩ (.int .i64 4)).setCell ⟨s, 1, none⟩ (.int .i64 0))) := Lib.hid fun w' b => ⟨by rw [e1, if_neg q], by rw [e2]; exact ⟨0, z1, ((hr.below b).set0 4).set1 0, ⟨⟨by decide, by omega⟩, hv.b1, (fun g => absurd g (by show ¬ ((4 : Int) = 2 ∨ (4 : Int) = 3); decide)), hv.e1⟩⟩, ((Only.of_below b).trans (only_set s 0 _ _) (fun _ _ q => q)).trans (only_set s 1 _ _) (fun _ _ q => q)⟩
    have R := Lib.hid hr
    clear hr hv e1 e2
    generalize crE a 0 = x' at *
    generalize crA a 0 = a' at *
    generalize a.r0 = x0 at *
    generalize a.r1 = x1 at *
    go_enter Try.func8, Try.ntmps8
    go_wp2_with fail
    refine H.out.mono ?_
    rintro e w1 ⟨rfl, b1⟩
    have c0 : w1.cell? ⟨s, 0, none⟩ = some (.int .i64 x0) := row_cell (R.out.below b1) 0
    have f0 := row_frozen (R.out.below b1) 0
    have f1 := row_frozen (R.out.below b1) 1
    have c1 : w1.cell? ⟨s, 1, none⟩ = some (.int .i64 z0) := row_cell (R.out.below b1) 1
    have F := Lib.hid (E.out w1 b1)
    clear R H E b1
    go_wp2
    go_ret
    exact F.out

set_option maxHeartbeats 1000000 in
theorem crash1 {w : World} {s t : Nat} {a : A} (P : Pr w s a t) : Calls Try.prog 8 #[.pointer (some ⟨s, 0, none⟩), .int .i64 1] w (CdeedPost w s (crE a 1) (crA a 1) t) := by
  obtain ⟨z0, z1, hr, hv⟩ := P
  have H := Lib.hid (has_any w s 1)
  rw [show hs 1 = true from rfl] at H
  have e1 : crE a 1 = if a.r1 = 4 then 10 else 0 := rfl
  have e2 : crA a 1 = { a with r1 := 4 } := rfl
  by_cases q : a.r1 = 4
  · have E : Hid (∀ w', Below w.heap.size w w' → CdeedPost w s (crE a 1) (crA a 1) t (.returned (.int .i64 10)) w') := Lib.hid fun w' b => ⟨by rw [e1, if_pos q], by rw [e2]; exact ⟨z0, z1, by have := hr.below b; rw [q] at this; exact this, ⟨hv.b0, hv.b1, hv.e0, (fun g => absurd g (by show ¬ ((4 : Int) = 2 ∨ (4 : Int) = 3); decide))⟩⟩, Only.of_below b⟩
    have R := Lib.hid hr
    rw [q] at R
    clear hr hv e1 e2
    generalize crE a 1 = x at *
    generalize crA a 1 = a' at *
    go_enter Try.func8, Try.ntmps8
    go_wp2_with fail
    refine H.out.mono ?_
    rintro e w1 ⟨rfl, b1⟩
    have c0 : w1.cell? ⟨s, 2, none⟩ = some (.int .i64 4) := row_cell (R.out.below b1) 2
    have F := Lib.hid (E.out w1 b1)
    clear R H E b1 q
    go_wp2
    go_ret
    exact F.out
  · have E : Hid (∀ w', Below w.heap.size w w' → CdeedPost w s (crE a 1) (crA a 1) t (.returned (.int .i64 0)) ((w'.setCell ⟨s, 2, none⟩ (.int .i64 4)).setCell ⟨s, 3, none⟩ (.int .i64 0))) := Lib.hid fun w' b => ⟨by rw [e1, if_neg q], by rw [e2]; exact ⟨z0, 0, ((hr.below b).set2 4).set3 0, ⟨hv.b0, ⟨by decide, by omega⟩, hv.e0, (fun g => absurd g (by show ¬ ((4 : Int) = 2 ∨ (4 : Int) = 3); decide))⟩⟩, ((Only.of_below b).trans (only_set s 2 _ _) (fun _ _ q => q)).trans (only_set s 3 _ _) (fun _ _ q => q)⟩
    have R := Lib.hid hr
    clear hr hv e1 e2
    generalize crE a 1 = x' at *
    generalize crA a 1 = a' at *
    generalize a.r0 = x0 at *
    generalize a.r1 = x1 at *
    go_enter Try.func8, Try.ntmps8
    go_wp2_with fail
    refine H.out.mono ?_
    rintro e w1 ⟨rfl, b1⟩
    have c0 : w1.cell? ⟨s, 2, none⟩ = some (.int .i64 x1) := row_cell (R.out.below b1) 2
    have f0 := row_frozen (R.out.below b1) 2
    have f1 := row_frozen (R.out.below b1) 3
    have c1 : w1.cell? ⟨s, 3, none⟩ = some (.int .i64 z1) := row_cell (R.out.below b1) 3
    have F := Lib.hid (E.out w1 b1)
    clear R H E b1
    go_wp2
    go_ret
    exact F.out

theorem crash_any {w : World} {s t : Nat} {a : A} (P : Pr w s a t) (n : Int) : Calls Try.prog 8 #[.pointer (some ⟨s, 0, none⟩), .int .i64 n] w (CdeedPost w s (crE a n) (crA a n) t) := by
  by_cases h0 : n = 0
  · subst h0; exact crash0 P
  · by_cases h1 : n = 1
    · subst h1; exact crash1 P
    · have E : Hid (∀ w', Below w.heap.size w w' → CdeedPost w s (crE a n) (crA a n) t (.returned (.int .i64 1)) w') := Lib.hid fun w' b => ⟨by unfold crE; rw [if_neg h0, if_neg h1], by unfold crA; rw [if_neg h0, if_neg h1]; exact P.only (G := fun _ => False) (Only.of_below b) (fun g => g), Only.of_below b⟩
      have H := Lib.hid (has_any w s n)
      rw [hs_no h0 h1] at H
      clear P h0 h1
      go_enter Try.func8, Try.ntmps8
      go_wp2_with fail
      refine H.out.mono ?_
      rintro e w1 ⟨rfl, b1⟩
      have F := Lib.hid (E.out w1 b1)
      clear H E b1
      go_wp2
      go_ret
      exact F.out
theorem crash_nil (w : World) (n : Int) : Calls Try.prog 8 #[.pointer none, .int .i64 n] w fun e w' => e = .returned (.int .i64 1) ∧ Below w.heap.size w w' := by
  have H := Lib.hid (has_nil w n)
  go_enter Try.func8, Try.ntmps8
  go_wp2_with fail
  refine H.out.mono ?_
  rintro e w1 ⟨rfl, b1⟩
  have B1 := Lib.hid b1
  clear H b1
  go_wp2
  go_ret
  exact ⟨rfl, B1.out⟩

/-! ### Restart -/
set_option maxHeartbeats 1000000 in
theorem restart0 {w : World} {s t : Nat} {a : A} (P : Pr w s a t) : Calls Try.prog 10 #[.pointer (some ⟨s, 0, none⟩), .int .i64 0] w (CdeedPost w s (rsE a 0) (rsA a 0) t) := by
  obtain ⟨z0, z1, hr, hv⟩ := P
  have H := Lib.hid (has_any w s 0)
  rw [show hs 0 = true from rfl] at H
  have e1 : rsE a 0 = if a.r0 = 4 then 0 else 10 := rfl
  have e2 : rsA a 0 = if a.r0 = 4 then { a with r0 := 3, q0 := 0 } else a := rfl
  by_cases q : a.r0 = 4
  · have E : Hid (∀ w', Below w.heap.size w w' → CdeedPost w s (rsE a 0) (rsA a 0) t (.returned (.int .i64 0)) ((w'.setCell ⟨s, 0, none⟩ (.int .i64 3)).setCell ⟨s, 1, none⟩ (.int .i64 0))) := Lib.hid fun w' b => ⟨by rw [e1, if_pos q], by rw [e2, if_pos q]; exact ⟨0, z1, ((hr.below b).set0 3).set1 0, ⟨⟨by decide, by omega⟩, hv.b1, (fun _ => rfl), hv.e1⟩⟩, ((Only.of_below b).trans (only_set s 0 _ _) (fun _ _ q => q)).trans (only_set s 1 _ _) (fun _ _ q => q)⟩
    have R := Lib.hid hr
    rw [q] at R
    clear hr hv e1 e2
    generalize rsE a 0 = x at *
    generalize rsA a 0 = a' at *
    go_enter Try.func10, Try.ntmps10
    go_wp2_with fail
    refine H.out.mono ?_
    rintro e w1 ⟨rfl, b1⟩
    have c0 : w1.cell? ⟨s, 0, none⟩ = some (.int .i64 4) := row_cell (R.out.below b1) 0
    have f0 := row_frozen (R.out.below b1) 0
    have f1 := row_frozen (R.out.below b1) 1
    have c1 : w1.cell? ⟨s, 1, none⟩ = some (.int .i64 z0) := row_cell (R.out.below b1) 1
    have F := Lib.hid (E.out w1 b1)
    clear R H E b1 q
    go_wp2
    go_ret
    exact F.out
  · have E : Hid (∀ w', Below w.heap.size w w' → CdeedPost w s (rsE a 0) (rsA a 0) t (.returned (.int .i64 10)) w') := Lib.hid fun w' b => ⟨by rw [e1, if_neg q], by rw [e2, if_neg q]; exact ⟨z0, z1, hr.below b, hv⟩, Only.of_below b⟩
    have R := Lib.hid hr
    have q4 : (a.r0 != 4) = true := bne_iff_ne.2 q
    clear hr hv e1 e2 q
    generalize rsE a 0 = x' at *
    generalize rsA a 0 = a' at *
    generalize a.r0 = x0 at *
    generalize a.r1 = x1 at *
    go_enter Try.func10, Try.ntmps10
    go_wp2_with fail
    refine H.out.mono ?_
    rintro e w1 ⟨rfl, b1⟩
    have c0 : w1.cell? ⟨s, 0, none⟩ = some (.int .i64 x0) := row_cell (R.out.below b1) 0
    have F := Lib.hid (E.out w1 b1)
    clear R H E b1
    go_wp2
    go_ret
    exact F.out

set_option maxHeartbeats 1000000 in
theorem restart1 {w : World} {s t : Nat} {a : A} (P : Pr w s a t) : Calls Try.prog 10 #[.pointer (some ⟨s, 0, none⟩), .int .i64 1] w (CdeedPost w s (rsE a 1) (rsA a 1) t) := by
  obtain ⟨z0, z1, hr, hv⟩ := P
  have H := Lib.hid (has_any w s 1)
  rw [show hs 1 = true from rfl] at H
  have e1 : rsE a 1 = if a.r1 = 4 then 0 else 10 := rfl
  have e2 : rsA a 1 = if a.r1 = 4 then { a with r1 := 3, q1 := 0 } else a := rfl
  by_cases q : a.r1 = 4
  · have E : Hid (∀ w', Below w.heap.size w w' → CdeedPost w s (rsE a 1) (rsA a 1) t (.returned (.int .i64 0)) ((w'.setCell ⟨s, 2, none⟩ (.int .i64 3)).setCell ⟨s, 3, none⟩ (.int .i64 0))) := Lib.hid fun w' b => ⟨by rw [e1, if_pos q], by rw [e2, if_pos q]; exact ⟨z0, 0, ((hr.below b).set2 3).set3 0, ⟨hv.b0, ⟨by decide, by omega⟩, hv.e0, (fun _ => rfl)⟩⟩, ((Only.of_below b).trans (only_set s 2 _ _) (fun _ _ q => q)).trans (only_set s 3 _ _) (fun _ _ q => q)⟩
    have R := Lib.hid hr
    rw [q] at R
    clear hr hv e1 e2
    generalize rsE a 1 = x at *
    generalize rsA a 1 = a' at *
    go_enter Try.func10, Try.ntmps10
    go_wp2_with fail
    refine H.out.mono ?_
    rintro e w1 ⟨rfl, b1⟩
    have c0 : w1.cell? ⟨s, 2, none⟩ = some (.int .i64 4) := row_cell (R.out.below b1) 2
    have f0 := row_frozen (R.out.below b1) 2
    have f1 := row_frozen (R.out.below b1) 3
    have c1 : w1.cell? ⟨s, 3, none⟩ = some (.int .i64 z1) := row_cell (R.out.below b1) 3
    have F := Lib.hid (E.out w1 b1)
    clear R H E b1 q
    go_wp2
    go_ret
    exact F.out
  · have E : Hid (∀ w', Below w.heap.size w w' → CdeedPost w s (rsE a 1) (rsA a 1) t (.returned (.int .i64 10)) w') := Lib.hid fun w' b => ⟨by rw [e1, if_neg q], by rw [e2, if_neg q]; exact ⟨z0, z1, hr.below b, hv⟩, Only.of_below b⟩
    have R := Lib.hid hr
    have q4 : (a.r1 != 4) = true := bne_iff_ne.2 q
    clear hr hv e1 e2 q
    generalize rsE a 1 = x' at *
    generalize rsA a 1 = a' at *
    generalize a.r0 = x0 at *
    generalize a.r1 = x1 at *
    go_enter Try.func10, Try.ntmps10
    go_wp2_with fail
    refine H.out.mono ?_
    rintro e w1 ⟨rfl, b1⟩
    have c0 : w1.cell? ⟨s, 2, none⟩ = some (.int .i64 x1) := row_cell (R.out.below b1) 2
    have F := Lib.hid (E.out w1 b1)
    clear R H E b1
    go_wp2
    go_ret
    exact F.out

theorem restart_any {w : World} {s t : Nat} {a : A} (P : Pr w s a t) (n : Int) : Calls Try.prog 10 #[.pointer (some ⟨s, 0, none⟩), .int .i64 n] w (CdeedPost w s (rsE a n) (rsA a n) t) := by
  by_cases h0 : n = 0
  · subst h0; exact restart0 P
  · by_cases h1 : n = 1
    · subst h1; exact restart1 P
    · have E : Hid (∀ w', Below w.heap.size w w' → CdeedPost w s (rsE a n) (rsA a n) t (.returned (.int .i64 1)) w') := Lib.hid fun w' b => ⟨by unfold rsE; rw [if_neg h0, if_neg h1], by unfold rsA; rw [if_neg h0, if_neg h1]; exact P.only (G := fun _ => False) (Only.of_below b) (fun g => g), Only.of_below b⟩
      have H := Lib.hid (has_any w s n)
      rw [hs_no h0 h1] at H
      clear P h0 h1
      go_enter Try.func10, Try.ntmps10
      go_wp2_with fail
      refine H.out.mono ?_
      rintro e w1 ⟨rfl, b1⟩
      have F := Lib.hid (E.out w1 b1)
      clear H E b1
      go_wp2
      go_ret
      exact F.out
theorem restart_nil (w : World) (n : Int) : Calls Try.prog 10 #[.pointer none, .int .i64 n] w fun e w' => e = .returned (.int .i64 1) ∧ Below w.heap.size w w' := by
  have H := Lib.hid (has_nil w n)
  go_enter Try.func10, Try.ntmps10
  go_wp2_with fail
  refine H.out.mono ?_
  rintro e w1 ⟨rfl, b1⟩
  have B1 := Lib.hid b1
  clear H b1
  go_wp2
  go_ret
  exact ⟨rfl, B1.out⟩

/-! ### Role -/
theorem role_at {w : World} {s : Nat} {x : Int} (k : Nat) (hk : k < 2) (c : ∀ w', Below w.heap.size w w' → w'.cell? ⟨s, 2 * k, none⟩ = some (.int .i64 x)) : Calls Try.prog 14 #[.pointer (some ⟨s, 0, none⟩), .int .i64 (k : Int)] w fun e w' => e = .returned (.int .i64 x) ∧ Below w.heap.size w w' := by
  have H := Lib.hid (has_any w s k)
  rcases (by omega : k = 0 ∨ k = 1) with rfl | rfl
  · rw [show hs ((0 : Nat) : Int) = true from rfl] at H
    go_enter Try.func14, Try.ntmps14
    go_wp2_with fail
    refine H.out.mono ?_
    rintro e w1 ⟨rfl, b1⟩
    have c0 : w1.cell? ⟨s, 0, none⟩ = _ := c w1 b1
    have B1 := Lib.hid b1
    clear H b1 c
    go_wp2
    go_ret
    exact ⟨rfl, B1.out⟩
  · rw [show hs ((1 : Nat) : Int) = true from rfl] at H
    go_enter Try.func14, Try.ntmps14
    go_wp2_with fail
    refine H.out.mono ?_
    rintro e w1 ⟨rfl, b1⟩
    have c0 : w1.cell? ⟨s, 2, none⟩ = _ := c w1 b1
    have B1 := Lib.hid b1
    clear H b1 c
    go_wp2
    go_ret
    exact ⟨rfl, B1.out⟩
theorem role_any {w : World} {s t : Nat} {a : A} (P : Pr w s a t) (n : Int) : Calls Try.prog 14 #[.pointer (some ⟨s, 0, none⟩), .int .i64 n] w fun e w' => e = .returned (.int .i64 (rl a n)) ∧ Below w.heap.size w w' := by
  obtain ⟨z0, z1, hr, hv⟩ := P
  by_cases h0 : n = 0
  · subst h0
    exact role_at 0 (by decide) fun w' b => row_cell (hr.below b) 0
  · by_cases h1 : n = 1
    · subst h1
      exact role_at 1 (by decide) fun w' b => row_cell (hr.below b) 2
    · have H := Lib.hid (has_any w s n)
      rw [hs_no h0 h1] at H
      have E : Hid (rl a n = 0) := Lib.hid (by unfold rl; rw [if_neg h0, if_neg h1])
      clear hr hv h0 h1
      generalize rl a n = x at *
      obtain rfl := E.out
      clear E
      go_enter Try.func14, Try.ntmps14
      go_wp2_with fail
      refine H.out.mono ?_
      rintro e w1 ⟨rfl, b1⟩
      have B1 := Lib.hid b1
      clear H b1
      go_wp2
      go_ret
      exact ⟨rfl, B1.out⟩
theorem role_nil (w : World) (n : Int) : Calls Try.prog 14 #[.pointer none, .int .i64 n] w fun e w' => e = .returned (.int .i64 0) ∧ Below w.heap.size w w' := by
  have H := Lib.hid (has_nil w n)
  go_enter Try.func14, Try.ntmps14
  go_wp2_with fail
  refine H.out.mono ?_
  rintro e w1 ⟨rfl, b1⟩
  have B1 := Lib.hid b1
  clear H b1
  go_wp2
  go_ret
  exact ⟨rfl, B1.out⟩

/-! ### due -/
def du (r z n : Int) : Bool := (decide (r = 2) && decide (4 ≤ z)) || (decide (r = 3) && decide (8 + n ≤ z))
theorem due_any (w : World) (r z n : Int) (hn : 0 ≤ n ∧ n ≤ 1) : Calls Try.prog 21 #[.agg #[.int .i64 r, .int .i64 z], .int .i64 n] w fun e w' => e = .returned (.bool (du r z n)) ∧ Below w.heap.size w w' := by
  have E : Hid (du r z n = ((decide (r = 2) && decide (4 ≤ z)) || (decide (r = 3) && decide (8 + n ≤ z)))) := Lib.hid rfl
  have w8 : IntKind.i64.wrap (8 + n) = 8 + n := IntWalk.i64_in _ (by omega)
  have B : Hid (Below w.heap.size w (w.alloc (.cells #[.int .i64 r, .int .i64 z] 40))) := Lib.hid ((Below.refl _ _).alloc (Nat.le_refl _) _)
  generalize du r z n = b at *
  by_cases h2 : r = 2
  · subst h2
    obtain rfl : b = decide (4 ≤ z) := by rw [E.out]; simp
    clear E
    go_enter Try.func21, Try.ntmps21
    go_wp2
    go_ret
    exact ⟨rfl, B.out⟩
  · by_cases h3 : r = 3
    · subst h3
      obtain rfl : b = decide (8 + n ≤ z) := by rw [E.out]; simp
      clear E h2
      go_enter Try.func21, Try.ntmps21
      go_wp2
      go_ret
      exact ⟨rfl, B.out⟩
    · obtain rfl : b = false := by rw [E.out]; simp [h2, h3]
      have q2 : (r == 2) = false := beq_eq_false_iff_ne.2 h2
      have q3 : (r == 3) = false := beq_eq_false_iff_ne.2 h3
      clear E h2 h3
      go_enter Try.func21, Try.ntmps21
      go_wp2
      go_ret
      exact ⟨rfl, B.out⟩

end Go.Proofs.Ytabhpafmppmigaa.Wt
