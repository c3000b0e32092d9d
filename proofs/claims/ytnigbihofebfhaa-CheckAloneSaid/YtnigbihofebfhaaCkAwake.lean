/- The fixed fact of layer 12, walked. -/
import Derived.Test.YtnigbihofebfhaaCkFew
namespace Go.Proofs.Ytnigbihofebfhaa.Ck
open Go.RowKit
open Go.Proofs.Ytnigbihofebfhaa.Ro (E5 z5 eat ent K5 at5 eat_mem eq_ent)
open Go.Proofs.Ytnigbihofebfhaa.Rw (Rd Ow At)
open Go.Proofs.Ytnigbihofebfhaa.Fl (ret_bool at_bool row_cell row_frozen)

theorem tab_at {w : World} {v : Value} {L : LL} {n e : Int} (R : RdL w v L) (h : tN L = n ∧ tE L = e) : Calls Try.prog 5 #[v] w fun x w' => x = .returned (.tuple #[.int .i64 n, .int .i64 e]) ∧ Below w.heap.size w w' := by
  have := tables_any w v L R
  unfold TabPost at this
  rw [h.1, h.2] at this
  exact this
theorem send_at {w : World} {v : Value} {L : LL} {s n : Int} {x : E5} (R : RdL w v L) (h : sN s L = n ∧ sE s L = x) : Calls Try.prog 8 #[v, .int .i64 s] w fun e w' => e = .returned (.tuple #[.int .i64 n, ent x]) ∧ Below w.heap.size w w' := by
  have := sender_any w v L s R
  unfold WhoPost at this
  rw [h.1, h.2] at this
  exact this

set_option maxHeartbeats 2000000 in
theorem awake_any (w : World) : Calls Try.prog 10 #[] w fun e w' => e = .returned (.bool true) ∧ Below w.heap.size w w' := by
  have P1 := Lib.hid (fun W => tab_at (lit_two W xa xb) t_ab)
  have P2 := Lib.hid (fun W => tab_at (lit_two W xa xa) t_aa)
  have P3 := Lib.hid (fun W => tab_at (lit_one W xb) t_b)
  have P4 := Lib.hid (fun W => send_at (lit_two W xb xa) s_ba)
  have E1 : ∀ w, (Op.equalIn 10000 30 (.agg #[.int .i64 1, .int .i64 1, .int .i64 0, .int .i64 1, .int .i64 0]) (.agg #[.int .i64 1, .int .i64 1, .int .i64 0, .int .i64 1, .int .i64 0])).run Try.prog w = .ok true w := fun w => by
    have := eq_ent xa xa w
    rw [decide_eq_true rfl] at this
    exact this
  have BL : Hid (∀ (W : World) o o' o'', Below W.heap.size W (((W.alloc o).alloc o').alloc o'')) := fun W o o' o'' => (((Below.refl W.heap.size W).alloc (Nat.le_refl _) o).alloc (by simp) o').alloc (by simp; omega) o''
  simp only [row5, xa] at P2
  simp only [row5, xb] at P3
  simp only [row5, xa, xb] at P1
  simp only [row5, xa, xb, ent] at P4
  go_enter Try.func10, Try.ntmps10
  go_upto_region 2 with fail
  have B0 : Hid (Below w.heap.size w ((w.alloc (.cells #[.int .i64 1, .int .i64 1, .int .i64 0, .int .i64 1, .int .i64 0] 30)).alloc (.cells #[.int .i64 2, .int .i64 1, .int .i64 0, .int .i64 1, .int .i64 0] 30))) := ((Below.refl w.heap.size w).alloc (Nat.le_refl _) _).alloc (by simp) _
  have A0 : RowE ((w.alloc (.cells #[.int .i64 1, .int .i64 1, .int .i64 0, .int .i64 1, .int .i64 0] 30)).alloc (.cells #[.int .i64 2, .int .i64 1, .int .i64 0, .int .i64 1, .int .i64 0] 30)) w.heap.size xa := (Below.heap_alloc _ _ _ (by simp)).trans (heap_alloc_new w _)
  have C0 : RowE ((w.alloc (.cells #[.int .i64 1, .int .i64 1, .int .i64 0, .int .i64 1, .int .i64 0] 30)).alloc (.cells #[.int .i64 2, .int .i64 1, .int .i64 0, .int .i64 1, .int .i64 0] 30)) (w.heap.size + 1) xb := by
    have := heap_alloc_new (w.alloc (.cells #[.int .i64 1, .int .i64 1, .int .i64 0, .int .i64 1, .int .i64 0] 30)) (.cells #[.int .i64 2, .int .i64 1, .int .i64 0, .int .i64 1, .int .i64 0] 30)
    rw [show (w.alloc (.cells #[.int .i64 1, .int .i64 1, .int .i64 0, .int .i64 1, .int .i64 0] 30)).heap.size = w.heap.size + 1 by simp] at this
    exact this
  generalize (w.alloc (.cells #[.int .i64 1, .int .i64 1, .int .i64 0, .int .i64 1, .int .i64 0] 30)).alloc (.cells #[.int .i64 2, .int .i64 1, .int .i64 0, .int .i64 1, .int .i64 0] 30) = W0 at *
  obtain ⟨gb, hgb⟩ : ∃ g, g = w.heap.size + 1 := ⟨_, rfl⟩
  rw [← hgb] at C0 ⊢
  clear hgb
  have HA0 := Lib.hid A0
  have HC0 := Lib.hid C0
  clear A0 C0
  have lA := HA0.out.lt
  have a0 : W0.cell? ⟨w.heap.size, 0, none⟩ = some (.int .i64 1) := row_cell HA0.out 0
  have a1 : W0.cell? ⟨w.heap.size, 1, none⟩ = some (.int .i64 1) := row_cell HA0.out 1
  have a2 : W0.cell? ⟨w.heap.size, 2, none⟩ = some (.int .i64 0) := row_cell HA0.out 2
  have a3 : W0.cell? ⟨w.heap.size, 3, none⟩ = some (.int .i64 1) := row_cell HA0.out 3
  have a4 : W0.cell? ⟨w.heap.size, 4, none⟩ = some (.int .i64 0) := row_cell HA0.out 4
  have lC := HC0.out.lt
  have c0 : W0.cell? ⟨gb, 0, none⟩ = some (.int .i64 2) := row_cell HC0.out 0
  have c1 : W0.cell? ⟨gb, 1, none⟩ = some (.int .i64 1) := row_cell HC0.out 1
  have c2 : W0.cell? ⟨gb, 2, none⟩ = some (.int .i64 0) := row_cell HC0.out 2
  have c3 : W0.cell? ⟨gb, 3, none⟩ = some (.int .i64 1) := row_cell HC0.out 3
  have c4 : W0.cell? ⟨gb, 4, none⟩ = some (.int .i64 0) := row_cell HC0.out 4
  go_wp2_with fail
  refine (P1.out _).mono ?_
  rintro e w1 ⟨rfl, b1⟩
  have bb := (BL.out W0 _ _ _).trans (b1.mono (by simp; omega))
  have B1 := Lib.hid (B0.out.trans (bb.mono B0.out.size))
  have HA1 := Lib.hid (HA0.out.below bb HA0.out.lt)
  have HC1 := Lib.hid (HC0.out.below bb HC0.out.lt)
  clear bb b1 B0 HA0 HC0 P1 lA a0 a1 a2 a3 a4 lC c0 c1 c2 c3 c4
  go_upto_region 3 with fail
  have lA := HA1.out.lt
  have a0 : w1.cell? ⟨w.heap.size, 0, none⟩ = some (.int .i64 1) := row_cell HA1.out 0
  have a1 : w1.cell? ⟨w.heap.size, 1, none⟩ = some (.int .i64 1) := row_cell HA1.out 1
  have a2 : w1.cell? ⟨w.heap.size, 2, none⟩ = some (.int .i64 0) := row_cell HA1.out 2
  have a3 : w1.cell? ⟨w.heap.size, 3, none⟩ = some (.int .i64 1) := row_cell HA1.out 3
  have a4 : w1.cell? ⟨w.heap.size, 4, none⟩ = some (.int .i64 0) := row_cell HA1.out 4
  go_wp2_with fail
  refine (P2.out _).mono ?_
  rintro e w2 ⟨rfl, b2⟩
  have bb := (BL.out w1 _ _ _).trans (b2.mono (by simp; omega))
  have B2 := Lib.hid (B1.out.trans (bb.mono B1.out.size))
  have HA2 := Lib.hid (HA1.out.below bb HA1.out.lt)
  have HC2 := Lib.hid (HC1.out.below bb HC1.out.lt)
  clear bb b2 B1 HA1 HC1 P2 lA a0 a1 a2 a3 a4
  go_upto_region 4 with fail
  have lC := HC2.out.lt
  have c0 : w2.cell? ⟨gb, 0, none⟩ = some (.int .i64 2) := row_cell HC2.out 0
  have c1 : w2.cell? ⟨gb, 1, none⟩ = some (.int .i64 1) := row_cell HC2.out 1
  have c2 : w2.cell? ⟨gb, 2, none⟩ = some (.int .i64 0) := row_cell HC2.out 2
  have c3 : w2.cell? ⟨gb, 3, none⟩ = some (.int .i64 1) := row_cell HC2.out 3
  have c4 : w2.cell? ⟨gb, 4, none⟩ = some (.int .i64 0) := row_cell HC2.out 4
  go_wp2_with fail
  refine (P3.out _).mono ?_
  rintro e w3 ⟨rfl, b3⟩
  have bb := (BL.out w2 _ _ _).trans (b3.mono (by simp; omega))
  have B3 := Lib.hid (B2.out.trans (bb.mono B2.out.size))
  have HA3 := Lib.hid (HA2.out.below bb HA2.out.lt)
  have HC3 := Lib.hid (HC2.out.below bb HC2.out.lt)
  clear bb b3 B2 HA2 HC2 P3 lC c0 c1 c2 c3 c4
  go_upto_region 5 with fail
  have lA := HA3.out.lt
  have a0 : w3.cell? ⟨w.heap.size, 0, none⟩ = some (.int .i64 1) := row_cell HA3.out 0
  have a1 : w3.cell? ⟨w.heap.size, 1, none⟩ = some (.int .i64 1) := row_cell HA3.out 1
  have a2 : w3.cell? ⟨w.heap.size, 2, none⟩ = some (.int .i64 0) := row_cell HA3.out 2
  have a3 : w3.cell? ⟨w.heap.size, 3, none⟩ = some (.int .i64 1) := row_cell HA3.out 3
  have a4 : w3.cell? ⟨w.heap.size, 4, none⟩ = some (.int .i64 0) := row_cell HA3.out 4
  have lC := HC3.out.lt
  have c0 : w3.cell? ⟨gb, 0, none⟩ = some (.int .i64 2) := row_cell HC3.out 0
  have c1 : w3.cell? ⟨gb, 1, none⟩ = some (.int .i64 1) := row_cell HC3.out 1
  have c2 : w3.cell? ⟨gb, 2, none⟩ = some (.int .i64 0) := row_cell HC3.out 2
  have c3 : w3.cell? ⟨gb, 3, none⟩ = some (.int .i64 1) := row_cell HC3.out 3
  have c4 : w3.cell? ⟨gb, 4, none⟩ = some (.int .i64 0) := row_cell HC3.out 4
  go_wp2_with fail
  refine (P4.out _).mono ?_
  rintro e w4 ⟨rfl, b4⟩
  have bb := (BL.out w3 _ _ _).trans (b4.mono (by simp; omega))
  have B4 := Lib.hid (B3.out.trans (bb.mono B3.out.size))
  have HA4 := Lib.hid (HA3.out.below bb HA3.out.lt)
  clear bb b4 B3 HA3 HC3 P4 lA a0 a1 a2 a3 a4 lC c0 c1 c2 c3 c4
  go_upto_region 6 with fail
  have bb := (Below.refl w4.heap.size w4).alloc (Nat.le_refl _) (.cells #[.int .i64 1, .int .i64 1, .int .i64 0, .int .i64 1, .int .i64 0] 30)
  have B5 := Lib.hid (B4.out.trans (bb.mono B4.out.size))
  have A5 := HA4.out.below bb HA4.out.lt
  have X5 : RowE (w4.alloc (.cells #[.int .i64 1, .int .i64 1, .int .i64 0, .int .i64 1, .int .i64 0] 30)) w4.heap.size xa := heap_alloc_new w4 _
  clear bb B4 HA4
  generalize w4.alloc (.cells #[.int .i64 1, .int .i64 1, .int .i64 0, .int .i64 1, .int .i64 0] 30) = W5 at *
  generalize w4.heap.size = gx at *
  have a0 : W5.cell? ⟨w.heap.size, 0, none⟩ = some (.int .i64 1) := row_cell A5 0
  have a1 : W5.cell? ⟨w.heap.size, 1, none⟩ = some (.int .i64 1) := row_cell A5 1
  have a2 : W5.cell? ⟨w.heap.size, 2, none⟩ = some (.int .i64 0) := row_cell A5 2
  have a3 : W5.cell? ⟨w.heap.size, 3, none⟩ = some (.int .i64 1) := row_cell A5 3
  have a4 : W5.cell? ⟨w.heap.size, 4, none⟩ = some (.int .i64 0) := row_cell A5 4
  have c0 : W5.cell? ⟨gx, 0, none⟩ = some (.int .i64 1) := row_cell X5 0
  have c1 : W5.cell? ⟨gx, 1, none⟩ = some (.int .i64 1) := row_cell X5 1
  have c2 : W5.cell? ⟨gx, 2, none⟩ = some (.int .i64 0) := row_cell X5 2
  have c3 : W5.cell? ⟨gx, 3, none⟩ = some (.int .i64 1) := row_cell X5 3
  have c4 : W5.cell? ⟨gx, 4, none⟩ = some (.int .i64 0) := row_cell X5 4
  go_wp2
  go_ret
  exact ⟨rfl, B5.out⟩

end Go.Proofs.Ytnigbihofebfhaa.Ck
