/- The document's own Do: which error. -/
import Derived.Test.YtoeemngekioldaaDoorFlDo
import Derived.Deep.Cut
namespace Go.Proofs.YtoeemngekioldaaDoor.Fl
open Go.RowKit
open Go.Proofs.YtoeemngekioldaaDoor.Rw (Rd Ow At)
attribute [local irreducible] Sd.wpSd wpQuiet Sf.wpSf

/-- Where the document's own Do stands. -/
structure StartR (w : World) (p : Int) (v : Value) (x : R4) (W : World) : Prop where
  st : Start w p v x W
  no : W.heap[w.heap.size + 4]? = some (.cells #[.int .i64 0, .slice none 0 0] 35 (0, 0))
theorem StartR.of (w : World) (p : Int) (v : Value) (x : R4) : StartR w p v x (((((w.alloc (.cells #[.int .i64 p, v] 35)).alloc (.cells (arr4 x) 32)).alloc (.cells #[.int .i64 0, .slice none 0 0] 35)).alloc (.cells (arr4 z4) 32)).alloc (.cells #[.int .i64 0, .slice none 0 0] 35)) := by
  have z4' : ∀ a b c d, ((((w.alloc a).alloc b).alloc c).alloc d).heap.size = w.heap.size + 4 := fun a b c d => by simp
  refine ⟨(Start.of w p v x).mono ((Below.refl _ _).alloc (Nat.le_refl _) _), ?_⟩
  have := heap_alloc_new ((((w.alloc (.cells #[.int .i64 p, v] 35)).alloc (.cells (arr4 x) 32)).alloc (.cells #[.int .i64 0, .slice none 0 0] 35)).alloc (.cells (arr4 z4) 32)) (.cells #[.int .i64 0, .slice none 0 0] 35)
  rw [z4'] at this
  exact this
theorem StartR.mono {w W W' : World} {p : Int} {v : Value} {x : R4} (h : StartR w p v x W) (b : Below W.heap.size W W') : StartR w p v x W' := ⟨h.st.mono b, (b.block _ (lt_of_block h.no)).trans h.no⟩

set_option maxHeartbeats 400000 in
theorem rdo_2 (w : World) (p : Int) (a : Option Addr) (n cap : Nat) (l : List R4) (R : Rd K4 w (.slice a n cap) l) (op rec : Int) (x : R4) (hg : ¬ goodF p l) : Calls Tryd.prog 31 #[file p (.slice a n cap), .int .i64 op, .int .i64 rec, rec4 x] w (DoPost w p l op rec x) := by
  have S0 : Hid (StartR w p (.slice a n cap) x (((((w.alloc (.cells #[.int .i64 p, .slice a n cap] 35)).alloc (.cells #[.int .u8 x.1, .int .u8 x.2.1, .int .u8 x.2.2.1, .int .u8 x.2.2.2] 32)).alloc (.cells #[.int .i64 0, .slice none 0 0] 35)).alloc (.cells #[.int .u8 0, .int .u8 0, .int .u8 0, .int .u8 0] 32)).alloc (.cells #[.int .i64 0, .slice none 0 0] 35))) := Lib.hid (StartR.of w p _ x)
  have GR := Lib.hid (at_bool (show goodFB p l = false from decide_eq_false hg) (rgood_any _ p _ l (R.below S0.out.st.bel)))
  have E : Hid (∀ w', Below w.heap.size w w' → DoPost w p l op rec x (.returned (.tuple #[file 0 (.slice none 0 0), rec4 z4, .int .i64 2])) w') := by
    have he : doE p l op rec = 2 := doE_2 hg
    exact fun w' h => ⟨.slice none 0 0, by rw [he]; rfl, by rw [he]; exact Ow.nil _ _ _, h⟩
  have hn : n = l.length := by
    obtain ⟨a', cap', e, _⟩ := R
    injection e
  clear R hg hn
  unfold file rec4 at *
  go_enter Tryd.func31, Tryd.ntmps31
  go_wp2_with fail
  generalize ((((w.alloc (.cells #[.int .i64 p, .slice a n cap] 35)).alloc (.cells #[.int .u8 x.1, .int .u8 x.2.1, .int .u8 x.2.2.1, .int .u8 x.2.2.2] 32)).alloc (.cells #[.int .i64 0, .slice none 0 0] 35)).alloc (.cells #[.int .u8 0, .int .u8 0, .int .u8 0, .int .u8 0] 32)).alloc (.cells #[.int .i64 0, .slice none 0 0] 35) = W at *
  refine GR.out.mono ?_
  rintro e w1 ⟨rfl, b1⟩
  have S1 := Lib.hid (S0.out.mono b1)
  clear b1 S0 GR
  have c0 : w1.cell? ⟨w.heap.size + 2, 0, none⟩ = some (.int .i64 0) := row_cell S1.out.st.res1 0
  have c1 : w1.cell? ⟨w.heap.size + 2, 1, none⟩ = some (.slice none 0 0) := row_cell S1.out.st.res1 1
  have d0 : w1.cell? ⟨w.heap.size + 3, 0, none⟩ = some (.int .u8 0) := row_cell S1.out.st.res2 0
  have d1 : w1.cell? ⟨w.heap.size + 3, 1, none⟩ = some (.int .u8 0) := row_cell S1.out.st.res2 1
  have d2 : w1.cell? ⟨w.heap.size + 3, 2, none⟩ = some (.int .u8 0) := row_cell S1.out.st.res2 2
  have d3 : w1.cell? ⟨w.heap.size + 3, 3, none⟩ = some (.int .u8 0) := row_cell S1.out.st.res2 3
  have n0 : w1.cell? ⟨w.heap.size + 4, 0, none⟩ = some (.int .i64 0) := row_cell S1.out.no 0
  have n1 : w1.cell? ⟨w.heap.size + 4, 1, none⟩ = some (.slice none 0 0) := row_cell S1.out.no 1
  have f0 := row_frozen S1.out.st.res1 0
  have f1 := row_frozen S1.out.st.res1 1
  have k0 := row_frozen S1.out.st.res2 0
  have k1 := row_frozen S1.out.st.res2 1
  have k2 := row_frozen S1.out.st.res2 2
  have k3 := row_frozen S1.out.st.res2 3
  have R1 := Lib.hid (sto4_other (g := w.heap.size + 3) (o := 0) (r := z4) (sto2_row S1.out.st.res1 0 (.slice none 0 0)) (by omega))
  have R2 := Lib.hid (sto4_row (sto2_other (g := w.heap.size + 2) (p := 0) (v := .slice none 0 0) S1.out.st.res2 (by omega)) z4)
  have B2 := Lib.hid (sto4_below (o := 0) (r := z4) (sto2_below (p := 0) (v := .slice none 0 0) S1.out.st.bel (show w.heap.size ≤ w.heap.size + 2 by omega)) (show w.heap.size ≤ w.heap.size + 3 by omega))
  have b0 : w1.cell? ⟨w.heap.size, 0, none⟩ = some (.int .i64 p) := row_cell S1.out.st.box 0
  have b1' : w1.cell? ⟨w.heap.size, 1, none⟩ = some (.slice a n cap) := row_cell S1.out.st.box 1
  clear S1
  go_wp2
  (try simp only [Exit.inBlock, Exit.then])
  exact bodyPost_ret (results_do (p := 8) (q := 9) (r := 10) rfl _ _ (w.heap.size + 2) (w.heap.size + 3) 0 (.slice none 0 0) z4 2 rfl rfl rfl R1.out R2.out) rfl (E.out _ B2.out)

set_option maxHeartbeats 400000 in
theorem rdo_1 (w : World) (p : Int) (a : Option Addr) (n cap : Nat) (l : List R4) (R : Rd K4 w (.slice a n cap) l) (op rec : Int) (x : R4) (hg : goodF p l) (ho : ¬ (0 ≤ op ∧ op ≤ 2)) : Calls Tryd.prog 31 #[file p (.slice a n cap), .int .i64 op, .int .i64 rec, rec4 x] w (DoPost w p l op rec x) := by
  have S0 : Hid (StartR w p (.slice a n cap) x (((((w.alloc (.cells #[.int .i64 p, .slice a n cap] 35)).alloc (.cells #[.int .u8 x.1, .int .u8 x.2.1, .int .u8 x.2.2.1, .int .u8 x.2.2.2] 32)).alloc (.cells #[.int .i64 0, .slice none 0 0] 35)).alloc (.cells #[.int .u8 0, .int .u8 0, .int .u8 0, .int .u8 0] 32)).alloc (.cells #[.int .i64 0, .slice none 0 0] 35))) := Lib.hid (StartR.of w p _ x)
  have GR := Lib.hid (at_bool (show goodFB p l = true from decide_eq_true hg) (rgood_any _ p _ l (R.below S0.out.st.bel)))
  have E : Hid (∀ w', Below w.heap.size w w' → DoPost w p l op rec x (.returned (.tuple #[file 0 (.slice none 0 0), rec4 z4, .int .i64 1])) w') := by
    have he : doE p l op rec = 1 := doE_1 hg ho
    exact fun w' h => ⟨.slice none 0 0, by rw [he]; rfl, by rw [he]; exact Ow.nil _ _ _, h⟩
  have hn : n = l.length := by
    obtain ⟨a', cap', e, _⟩ := R
    injection e
  clear R hg hn
  unfold file rec4 at *
  have ho2 : op < 0 ∨ (0 ≤ op ∧ 2 < op) := by omega
  clear ho
  rcases ho2 with ho | ⟨ho, ho2⟩
  all_goals
    go_enter Tryd.func31, Tryd.ntmps31
    go_wp2_with fail
    generalize ((((w.alloc (.cells #[.int .i64 p, .slice a n cap] 35)).alloc (.cells #[.int .u8 x.1, .int .u8 x.2.1, .int .u8 x.2.2.1, .int .u8 x.2.2.2] 32)).alloc (.cells #[.int .i64 0, .slice none 0 0] 35)).alloc (.cells #[.int .u8 0, .int .u8 0, .int .u8 0, .int .u8 0] 32)).alloc (.cells #[.int .i64 0, .slice none 0 0] 35) = W at *
    refine GR.out.mono ?_
    rintro e w1 ⟨rfl, b1⟩
    have S1 := Lib.hid (S0.out.mono b1)
    clear b1 S0 GR
    have c0 : w1.cell? ⟨w.heap.size + 2, 0, none⟩ = some (.int .i64 0) := row_cell S1.out.st.res1 0
    have c1 : w1.cell? ⟨w.heap.size + 2, 1, none⟩ = some (.slice none 0 0) := row_cell S1.out.st.res1 1
    have d0 : w1.cell? ⟨w.heap.size + 3, 0, none⟩ = some (.int .u8 0) := row_cell S1.out.st.res2 0
    have d1 : w1.cell? ⟨w.heap.size + 3, 1, none⟩ = some (.int .u8 0) := row_cell S1.out.st.res2 1
    have d2 : w1.cell? ⟨w.heap.size + 3, 2, none⟩ = some (.int .u8 0) := row_cell S1.out.st.res2 2
    have d3 : w1.cell? ⟨w.heap.size + 3, 3, none⟩ = some (.int .u8 0) := row_cell S1.out.st.res2 3
    have n0 : w1.cell? ⟨w.heap.size + 4, 0, none⟩ = some (.int .i64 0) := row_cell S1.out.no 0
    have n1 : w1.cell? ⟨w.heap.size + 4, 1, none⟩ = some (.slice none 0 0) := row_cell S1.out.no 1
    have f0 := row_frozen S1.out.st.res1 0
    have f1 := row_frozen S1.out.st.res1 1
    have k0 := row_frozen S1.out.st.res2 0
    have k1 := row_frozen S1.out.st.res2 1
    have k2 := row_frozen S1.out.st.res2 2
    have k3 := row_frozen S1.out.st.res2 3
    have R1 := Lib.hid (sto4_other (g := w.heap.size + 3) (o := 0) (r := z4) (sto2_row S1.out.st.res1 0 (.slice none 0 0)) (by omega))
    have R2 := Lib.hid (sto4_row (sto2_other (g := w.heap.size + 2) (p := 0) (v := .slice none 0 0) S1.out.st.res2 (by omega)) z4)
    have B2 := Lib.hid (sto4_below (o := 0) (r := z4) (sto2_below (p := 0) (v := .slice none 0 0) S1.out.st.bel (show w.heap.size ≤ w.heap.size + 2 by omega)) (show w.heap.size ≤ w.heap.size + 3 by omega))
    have b0 : w1.cell? ⟨w.heap.size, 0, none⟩ = some (.int .i64 p) := row_cell S1.out.st.box 0
    have b1' : w1.cell? ⟨w.heap.size, 1, none⟩ = some (.slice a n cap) := row_cell S1.out.st.box 1
    clear S1
    go_wp2
    (try simp only [Exit.inBlock, Exit.then])
    exact bodyPost_ret (results_do (p := 8) (q := 9) (r := 10) rfl _ _ (w.heap.size + 2) (w.heap.size + 3) 0 (.slice none 0 0) z4 1 rfl rfl rfl R1.out R2.out) rfl (E.out _ B2.out)

set_option maxHeartbeats 400000 in
theorem rdo_4 (w : World) (p : Int) (a : Option Addr) (n cap : Nat) (l : List R4) (R : Rd K4 w (.slice a n cap) l) (op rec : Int) (x : R4) (hg : goodF p l) (ho : 0 ≤ op ∧ op ≤ 2) (hr : ¬ (0 ≤ rec ∧ rec < l.length)) : Calls Tryd.prog 31 #[file p (.slice a n cap), .int .i64 op, .int .i64 rec, rec4 x] w (DoPost w p l op rec x) := by
  have S0 : Hid (StartR w p (.slice a n cap) x (((((w.alloc (.cells #[.int .i64 p, .slice a n cap] 35)).alloc (.cells #[.int .u8 x.1, .int .u8 x.2.1, .int .u8 x.2.2.1, .int .u8 x.2.2.2] 32)).alloc (.cells #[.int .i64 0, .slice none 0 0] 35)).alloc (.cells #[.int .u8 0, .int .u8 0, .int .u8 0, .int .u8 0] 32)).alloc (.cells #[.int .i64 0, .slice none 0 0] 35))) := Lib.hid (StartR.of w p _ x)
  have GR := Lib.hid (at_bool (show goodFB p l = true from decide_eq_true hg) (rgood_any _ p _ l (R.below S0.out.st.bel)))
  have E : Hid (∀ w', Below w.heap.size w w' → DoPost w p l op rec x (.returned (.tuple #[file 0 (.slice none 0 0), rec4 z4, .int .i64 4])) w') := by
    have he : doE p l op rec = 4 := doE_4 hg ho hr
    exact fun w' h => ⟨.slice none 0 0, by rw [he]; rfl, by rw [he]; exact Ow.nil _ _ _, h⟩
  have hn : n = l.length := by
    obtain ⟨a', cap', e, _⟩ := R
    injection e
  clear R hg
  unfold file rec4 at *
  have hr2 : rec < 0 ∨ (0 ≤ rec ∧ (n : Int) ≤ rec) := by omega
  clear hr hn
  obtain ⟨ho0, ho1⟩ := ho
  have hop : op = 0 ∨ op = 1 ∨ op = 2 := by omega
  clear ho0 ho1
  rcases hr2 with hr | ⟨hr, hr2⟩ <;> rcases hop with rfl | rfl | rfl
  all_goals
    go_enter Tryd.func31, Tryd.ntmps31
    go_wp2_with fail
    generalize ((((w.alloc (.cells #[.int .i64 p, .slice a n cap] 35)).alloc (.cells #[.int .u8 x.1, .int .u8 x.2.1, .int .u8 x.2.2.1, .int .u8 x.2.2.2] 32)).alloc (.cells #[.int .i64 0, .slice none 0 0] 35)).alloc (.cells #[.int .u8 0, .int .u8 0, .int .u8 0, .int .u8 0] 32)).alloc (.cells #[.int .i64 0, .slice none 0 0] 35) = W at *
    refine GR.out.mono ?_
    rintro e w1 ⟨rfl, b1⟩
    have S1 := Lib.hid (S0.out.mono b1)
    clear b1 S0 GR
    have c0 : w1.cell? ⟨w.heap.size + 2, 0, none⟩ = some (.int .i64 0) := row_cell S1.out.st.res1 0
    have c1 : w1.cell? ⟨w.heap.size + 2, 1, none⟩ = some (.slice none 0 0) := row_cell S1.out.st.res1 1
    have d0 : w1.cell? ⟨w.heap.size + 3, 0, none⟩ = some (.int .u8 0) := row_cell S1.out.st.res2 0
    have d1 : w1.cell? ⟨w.heap.size + 3, 1, none⟩ = some (.int .u8 0) := row_cell S1.out.st.res2 1
    have d2 : w1.cell? ⟨w.heap.size + 3, 2, none⟩ = some (.int .u8 0) := row_cell S1.out.st.res2 2
    have d3 : w1.cell? ⟨w.heap.size + 3, 3, none⟩ = some (.int .u8 0) := row_cell S1.out.st.res2 3
    have n0 : w1.cell? ⟨w.heap.size + 4, 0, none⟩ = some (.int .i64 0) := row_cell S1.out.no 0
    have n1 : w1.cell? ⟨w.heap.size + 4, 1, none⟩ = some (.slice none 0 0) := row_cell S1.out.no 1
    have f0 := row_frozen S1.out.st.res1 0
    have f1 := row_frozen S1.out.st.res1 1
    have k0 := row_frozen S1.out.st.res2 0
    have k1 := row_frozen S1.out.st.res2 1
    have k2 := row_frozen S1.out.st.res2 2
    have k3 := row_frozen S1.out.st.res2 3
    have R1 := Lib.hid (sto4_other (g := w.heap.size + 3) (o := 0) (r := z4) (sto2_row S1.out.st.res1 0 (.slice none 0 0)) (by omega))
    have R2 := Lib.hid (sto4_row (sto2_other (g := w.heap.size + 2) (p := 0) (v := .slice none 0 0) S1.out.st.res2 (by omega)) z4)
    have B2 := Lib.hid (sto4_below (o := 0) (r := z4) (sto2_below (p := 0) (v := .slice none 0 0) S1.out.st.bel (show w.heap.size ≤ w.heap.size + 2 by omega)) (show w.heap.size ≤ w.heap.size + 3 by omega))
    have b0 : w1.cell? ⟨w.heap.size, 0, none⟩ = some (.int .i64 p) := row_cell S1.out.st.box 0
    have b1' : w1.cell? ⟨w.heap.size, 1, none⟩ = some (.slice a n cap) := row_cell S1.out.st.box 1
    clear S1
    go_wp2
    (try simp only [Exit.inBlock, Exit.then])
    exact bodyPost_ret (results_do (p := 8) (q := 9) (r := 10) rfl _ _ (w.heap.size + 2) (w.heap.size + 3) 0 (.slice none 0 0) z4 4 rfl rfl rfl R1.out R2.out) rfl (E.out _ B2.out)

theorem five {p op rec : Int} (ho : 0 ≤ op ∧ op ≤ 2) (hr : 0 ≤ rec) (hk : ¬ (rec = 0 ∧ op = 0 ∨ 0 < rec ∧ p / need op % 2 = 1)) : op = 0 ∧ 0 < rec ∧ p / 1 % 2 = 0 ∨ op = 1 ∧ rec = 0 ∨ op = 1 ∧ 0 < rec ∧ p / 2 % 2 = 0 ∨ op = 2 ∧ rec = 0 ∨ op = 2 ∧ 0 < rec ∧ p / 4 % 2 = 0 := by
  rcases (by omega : op = 0 ∨ op = 1 ∨ op = 2) with rfl | rfl | rfl
  · rw [show need 0 = 1 from rfl] at hk; omega
  · rw [show need 1 = 2 from rfl] at hk; omega
  · rw [show need 2 = 4 from rfl] at hk; omega
set_option maxHeartbeats 400000 in
theorem rdo_5 (w : World) (p : Int) (a : Option Addr) (n cap : Nat) (l : List R4) (R : Rd K4 w (.slice a n cap) l) (op rec : Int) (x : R4) (hg : goodF p l) (ho : 0 ≤ op ∧ op ≤ 2) (hr : 0 ≤ rec ∧ rec < l.length) (hk : ¬ (rec = 0 ∧ op = 0 ∨ 0 < rec ∧ p / need op % 2 = 1)) : Calls Tryd.prog 31 #[file p (.slice a n cap), .int .i64 op, .int .i64 rec, rec4 x] w (DoPost w p l op rec x) := by
  have S0 : Hid (StartR w p (.slice a n cap) x (((((w.alloc (.cells #[.int .i64 p, .slice a n cap] 35)).alloc (.cells #[.int .u8 x.1, .int .u8 x.2.1, .int .u8 x.2.2.1, .int .u8 x.2.2.2] 32)).alloc (.cells #[.int .i64 0, .slice none 0 0] 35)).alloc (.cells #[.int .u8 0, .int .u8 0, .int .u8 0, .int .u8 0] 32)).alloc (.cells #[.int .i64 0, .slice none 0 0] 35))) := Lib.hid (StartR.of w p _ x)
  have GR := Lib.hid (at_bool (show goodFB p l = true from decide_eq_true hg) (rgood_any _ p _ l (R.below S0.out.st.bel)))
  have E : Hid (∀ w', Below w.heap.size w w' → DoPost w p l op rec x (.returned (.tuple #[file 0 (.slice none 0 0), rec4 z4, .int .i64 5])) w') := by
    have he : doE p l op rec = 5 := doE_5 hg ho hr hk
    exact fun w' h => ⟨.slice none 0 0, by rw [he]; rfl, by rw [he]; exact Ow.nil _ _ _, h⟩
  have hn : n = l.length := by
    obtain ⟨a', cap', e, _⟩ := R
    injection e
  have p0 : 0 ≤ p := hg.1
  have p1 : p ≤ 7 := hg.2.1
  clear R hg
  unfold file rec4 at *
  obtain ⟨ho0, ho1⟩ := ho
  obtain ⟨hr0, hr1⟩ := hr
  rw [← hn] at hr1
  have hop : op = 0 ∧ 0 < rec ∧ p / 1 % 2 = 0 ∨ op = 1 ∧ rec = 0 ∨ op = 1 ∧ 0 < rec ∧ p / 2 % 2 = 0 ∨ op = 2 ∧ rec = 0 ∨ op = 2 ∧ 0 < rec ∧ p / 4 % 2 = 0 := five ⟨ho0, ho1⟩ hr0 hk
  clear ho0 ho1 hk hn
  rcases hop with ⟨rfl, hr2, hq⟩ | ⟨rfl, rfl⟩ | ⟨rfl, hr2, hq⟩ | ⟨rfl, rfl⟩ | ⟨rfl, hr2, hq⟩
  · have hq1 : IntKind.i64.wrap p = p := IntWalk.i64_in _ (by omega)
    have hq2 : Int.tmod p 2 = 0 := by rw [Int.tmod_eq_emod_of_nonneg p0]; omega
    clear hq
    have hz : ¬ rec = 0 := by omega
    have hz2 : (rec == 0) = false := by simpa using hz
    go_enter Tryd.func31, Tryd.ntmps31
    go_wp2_with fail
    generalize ((((w.alloc (.cells #[.int .i64 p, .slice a n cap] 35)).alloc (.cells #[.int .u8 x.1, .int .u8 x.2.1, .int .u8 x.2.2.1, .int .u8 x.2.2.2] 32)).alloc (.cells #[.int .i64 0, .slice none 0 0] 35)).alloc (.cells #[.int .u8 0, .int .u8 0, .int .u8 0, .int .u8 0] 32)).alloc (.cells #[.int .i64 0, .slice none 0 0] 35) = W at *
    refine GR.out.mono ?_
    rintro e w1 ⟨rfl, b1⟩
    have S1 := Lib.hid (S0.out.mono b1)
    clear b1 S0 GR
    have b0 : w1.cell? ⟨w.heap.size, 0, none⟩ = some (.int .i64 p) := row_cell S1.out.st.box 0
    have b1' : w1.cell? ⟨w.heap.size, 1, none⟩ = some (.slice a n cap) := row_cell S1.out.st.box 1
    go_upto_region 9 with fail
    have S2 : Hid (StartR w p (.slice a n cap) x (w1.alloc (.cells #[.int .i64 1, .int .i64 2, .int .i64 4] 3))) := Lib.hid (S1.out.mono ((Below.refl _ _).alloc (Nat.le_refl _) _))
    clear b0 b1' S1
    generalize w1.alloc (.cells #[.int .i64 1, .int .i64 2, .int .i64 4] 3) = w2 at *
    have S1 := S2
    clear S2
    have c0 : w2.cell? ⟨w.heap.size + 2, 0, none⟩ = some (.int .i64 0) := row_cell S1.out.st.res1 0
    have c1 : w2.cell? ⟨w.heap.size + 2, 1, none⟩ = some (.slice none 0 0) := row_cell S1.out.st.res1 1
    have d0 : w2.cell? ⟨w.heap.size + 3, 0, none⟩ = some (.int .u8 0) := row_cell S1.out.st.res2 0
    have d1 : w2.cell? ⟨w.heap.size + 3, 1, none⟩ = some (.int .u8 0) := row_cell S1.out.st.res2 1
    have d2 : w2.cell? ⟨w.heap.size + 3, 2, none⟩ = some (.int .u8 0) := row_cell S1.out.st.res2 2
    have d3 : w2.cell? ⟨w.heap.size + 3, 3, none⟩ = some (.int .u8 0) := row_cell S1.out.st.res2 3
    have n0 : w2.cell? ⟨w.heap.size + 4, 0, none⟩ = some (.int .i64 0) := row_cell S1.out.no 0
    have n1 : w2.cell? ⟨w.heap.size + 4, 1, none⟩ = some (.slice none 0 0) := row_cell S1.out.no 1
    have f0 := row_frozen S1.out.st.res1 0
    have f1 := row_frozen S1.out.st.res1 1
    have k0 := row_frozen S1.out.st.res2 0
    have k1 := row_frozen S1.out.st.res2 1
    have k2 := row_frozen S1.out.st.res2 2
    have k3 := row_frozen S1.out.st.res2 3
    have R1 := Lib.hid (sto4_other (g := w.heap.size + 3) (o := 0) (r := z4) (sto2_row S1.out.st.res1 0 (.slice none 0 0)) (by omega))
    have R2 := Lib.hid (sto4_row (sto2_other (g := w.heap.size + 2) (p := 0) (v := .slice none 0 0) S1.out.st.res2 (by omega)) z4)
    have B2 := Lib.hid (sto4_below (o := 0) (r := z4) (sto2_below (p := 0) (v := .slice none 0 0) S1.out.st.bel (show w.heap.size ≤ w.heap.size + 2 by omega)) (show w.heap.size ≤ w.heap.size + 3 by omega))
    have b0 : w2.cell? ⟨w.heap.size, 0, none⟩ = some (.int .i64 p) := row_cell S1.out.st.box 0
    have b1' : w2.cell? ⟨w.heap.size, 1, none⟩ = some (.slice a n cap) := row_cell S1.out.st.box 1
    clear S1
    go_wp2
    (try simp only [Exit.inBlock, Exit.then])
    exact bodyPost_ret (results_do (p := 8) (q := 9) (r := 10) rfl _ _ (w.heap.size + 2) (w.heap.size + 3) 0 (.slice none 0 0) z4 5 rfl rfl rfl R1.out R2.out) rfl (E.out _ B2.out)
  · go_enter Tryd.func31, Tryd.ntmps31
    go_wp2_with fail
    generalize ((((w.alloc (.cells #[.int .i64 p, .slice a n cap] 35)).alloc (.cells #[.int .u8 x.1, .int .u8 x.2.1, .int .u8 x.2.2.1, .int .u8 x.2.2.2] 32)).alloc (.cells #[.int .i64 0, .slice none 0 0] 35)).alloc (.cells #[.int .u8 0, .int .u8 0, .int .u8 0, .int .u8 0] 32)).alloc (.cells #[.int .i64 0, .slice none 0 0] 35) = W at *
    refine GR.out.mono ?_
    rintro e w1 ⟨rfl, b1⟩
    have S1 := Lib.hid (S0.out.mono b1)
    clear b1 S0 GR
    have b0 : w1.cell? ⟨w.heap.size, 0, none⟩ = some (.int .i64 p) := row_cell S1.out.st.box 0
    have b1' : w1.cell? ⟨w.heap.size, 1, none⟩ = some (.slice a n cap) := row_cell S1.out.st.box 1
    go_upto_region 9 with fail
    have S2 : Hid (StartR w p (.slice a n cap) x (w1.alloc (.cells #[.int .i64 1, .int .i64 2, .int .i64 4] 3))) := Lib.hid (S1.out.mono ((Below.refl _ _).alloc (Nat.le_refl _) _))
    clear b0 b1' S1
    generalize w1.alloc (.cells #[.int .i64 1, .int .i64 2, .int .i64 4] 3) = w2 at *
    have S1 := S2
    clear S2
    have c0 : w2.cell? ⟨w.heap.size + 2, 0, none⟩ = some (.int .i64 0) := row_cell S1.out.st.res1 0
    have c1 : w2.cell? ⟨w.heap.size + 2, 1, none⟩ = some (.slice none 0 0) := row_cell S1.out.st.res1 1
    have d0 : w2.cell? ⟨w.heap.size + 3, 0, none⟩ = some (.int .u8 0) := row_cell S1.out.st.res2 0
    have d1 : w2.cell? ⟨w.heap.size + 3, 1, none⟩ = some (.int .u8 0) := row_cell S1.out.st.res2 1
    have d2 : w2.cell? ⟨w.heap.size + 3, 2, none⟩ = some (.int .u8 0) := row_cell S1.out.st.res2 2
    have d3 : w2.cell? ⟨w.heap.size + 3, 3, none⟩ = some (.int .u8 0) := row_cell S1.out.st.res2 3
    have n0 : w2.cell? ⟨w.heap.size + 4, 0, none⟩ = some (.int .i64 0) := row_cell S1.out.no 0
    have n1 : w2.cell? ⟨w.heap.size + 4, 1, none⟩ = some (.slice none 0 0) := row_cell S1.out.no 1
    have f0 := row_frozen S1.out.st.res1 0
    have f1 := row_frozen S1.out.st.res1 1
    have k0 := row_frozen S1.out.st.res2 0
    have k1 := row_frozen S1.out.st.res2 1
    have k2 := row_frozen S1.out.st.res2 2
    have k3 := row_frozen S1.out.st.res2 3
    have R1 := Lib.hid (sto4_other (g := w.heap.size + 3) (o := 0) (r := z4) (sto2_row S1.out.st.res1 0 (.slice none 0 0)) (by omega))
    have R2 := Lib.hid (sto4_row (sto2_other (g := w.heap.size + 2) (p := 0) (v := .slice none 0 0) S1.out.st.res2 (by omega)) z4)
    have B2 := Lib.hid (sto4_below (o := 0) (r := z4) (sto2_below (p := 0) (v := .slice none 0 0) S1.out.st.bel (show w.heap.size ≤ w.heap.size + 2 by omega)) (show w.heap.size ≤ w.heap.size + 3 by omega))
    have b0 : w2.cell? ⟨w.heap.size, 0, none⟩ = some (.int .i64 p) := row_cell S1.out.st.box 0
    have b1' : w2.cell? ⟨w.heap.size, 1, none⟩ = some (.slice a n cap) := row_cell S1.out.st.box 1
    clear S1
    go_wp2
    (try simp only [Exit.inBlock, Exit.then])
    exact bodyPost_ret (results_do (p := 8) (q := 9) (r := 10) rfl _ _ (w.heap.size + 2) (w.heap.size + 3) 0 (.slice none 0 0) z4 5 rfl rfl rfl R1.out R2.out) rfl (E.out _ B2.out)
  · have hq1 : IntKind.i64.wrap (Int.tdiv p 2) = p / 2 := by rw [Int.tdiv_eq_ediv_of_nonneg p0]; exact IntWalk.i64_in _ (by omega)
    have hq2 : Int.tmod (p / 2) 2 = 0 := by rw [Int.tmod_eq_emod_of_nonneg (by omega)]; exact hq
    clear hq
    have hz : ¬ rec = 0 := by omega
    have hz2 : (rec == 0) = false := by simpa using hz
    go_enter Tryd.func31, Tryd.ntmps31
    go_wp2_with fail
    generalize ((((w.alloc (.cells #[.int .i64 p, .slice a n cap] 35)).alloc (.cells #[.int .u8 x.1, .int .u8 x.2.1, .int .u8 x.2.2.1, .int .u8 x.2.2.2] 32)).alloc (.cells #[.int .i64 0, .slice none 0 0] 35)).alloc (.cells #[.int .u8 0, .int .u8 0, .int .u8 0, .int .u8 0] 32)).alloc (.cells #[.int .i64 0, .slice none 0 0] 35) = W at *
    refine GR.out.mono ?_
    rintro e w1 ⟨rfl, b1⟩
    have S1 := Lib.hid (S0.out.mono b1)
    clear b1 S0 GR
    have b0 : w1.cell? ⟨w.heap.size, 0, none⟩ = some (.int .i64 p) := row_cell S1.out.st.box 0
    have b1' : w1.cell? ⟨w.heap.size, 1, none⟩ = some (.slice a n cap) := row_cell S1.out.st.box 1
    go_upto_region 9 with fail
    have S2 : Hid (StartR w p (.slice a n cap) x (w1.alloc (.cells #[.int .i64 1, .int .i64 2, .int .i64 4] 3))) := Lib.hid (S1.out.mono ((Below.refl _ _).alloc (Nat.le_refl _) _))
    clear b0 b1' S1
    generalize w1.alloc (.cells #[.int .i64 1, .int .i64 2, .int .i64 4] 3) = w2 at *
    have S1 := S2
    clear S2
    have c0 : w2.cell? ⟨w.heap.size + 2, 0, none⟩ = some (.int .i64 0) := row_cell S1.out.st.res1 0
    have c1 : w2.cell? ⟨w.heap.size + 2, 1, none⟩ = some (.slice none 0 0) := row_cell S1.out.st.res1 1
    have d0 : w2.cell? ⟨w.heap.size + 3, 0, none⟩ = some (.int .u8 0) := row_cell S1.out.st.res2 0
    have d1 : w2.cell? ⟨w.heap.size + 3, 1, none⟩ = some (.int .u8 0) := row_cell S1.out.st.res2 1
    have d2 : w2.cell? ⟨w.heap.size + 3, 2, none⟩ = some (.int .u8 0) := row_cell S1.out.st.res2 2
    have d3 : w2.cell? ⟨w.heap.size + 3, 3, none⟩ = some (.int .u8 0) := row_cell S1.out.st.res2 3
    have n0 : w2.cell? ⟨w.heap.size + 4, 0, none⟩ = some (.int .i64 0) := row_cell S1.out.no 0
    have n1 : w2.cell? ⟨w.heap.size + 4, 1, none⟩ = some (.slice none 0 0) := row_cell S1.out.no 1
    have f0 := row_frozen S1.out.st.res1 0
    have f1 := row_frozen S1.out.st.res1 1
    have k0 := row_frozen S1.out.st.res2 0
    have k1 := row_frozen S1.out.st.res2 1
    have k2 := row_frozen S1.out.st.res2 2
    have k3 := row_frozen S1.out.st.res2 3
    have R1 := Lib.hid (sto4_other (g := w.heap.size + 3) (o := 0) (r := z4) (sto2_row S1.out.st.res1 0 (.slice none 0 0)) (by omega))
    have R2 := Lib.hid (sto4_row (sto2_other (g := w.heap.size + 2) (p := 0) (v := .slice none 0 0) S1.out.st.res2 (by omega)) z4)
    have B2 := Lib.hid (sto4_below (o := 0) (r := z4) (sto2_below (p := 0) (v := .slice none 0 0) S1.out.st.bel (show w.heap.size ≤ w.heap.size + 2 by omega)) (show w.heap.size ≤ w.heap.size + 3 by omega))
    have b0 : w2.cell? ⟨w.heap.size, 0, none⟩ = some (.int .i64 p) := row_cell S1.out.st.box 0
    have b1' : w2.cell? ⟨w.heap.size, 1, none⟩ = some (.slice a n cap) := row_cell S1.out.st.box 1
    clear S1
    go_wp2
    (try simp only [Exit.inBlock, Exit.then])
    exact bodyPost_ret (results_do (p := 8) (q := 9) (r := 10) rfl _ _ (w.heap.size + 2) (w.heap.size + 3) 0 (.slice none 0 0) z4 5 rfl rfl rfl R1.out R2.out) rfl (E.out _ B2.out)
  · go_enter Tryd.func31, Tryd.ntmps31
    go_wp2_with fail
    generalize ((((w.alloc (.cells #[.int .i64 p, .slice a n cap] 35)).alloc (.cells #[.int .u8 x.1, .int .u8 x.2.1, .int .u8 x.2.2.1, .int .u8 x.2.2.2] 32)).alloc (.cells #[.int .i64 0, .slice none 0 0] 35)).alloc (.cells #[.int .u8 0, .int .u8 0, .int .u8 0, .int .u8 0] 32)).alloc (.cells #[.int .i64 0, .slice none 0 0] 35) = W at *
    refine GR.out.mono ?_
    rintro e w1 ⟨rfl, b1⟩
    have S1 := Lib.hid (S0.out.mono b1)
    clear b1 S0 GR
    have b0 : w1.cell? ⟨w.heap.size, 0, none⟩ = some (.int .i64 p) := row_cell S1.out.st.box 0
    have b1' : w1.cell? ⟨w.heap.size, 1, none⟩ = some (.slice a n cap) := row_cell S1.out.st.box 1
    go_upto_region 9 with fail
    have S2 : Hid (StartR w p (.slice a n cap) x (w1.alloc (.cells #[.int .i64 1, .int .i64 2, .int .i64 4] 3))) := Lib.hid (S1.out.mono ((Below.refl _ _).alloc (Nat.le_refl _) _))
    clear b0 b1' S1
    generalize w1.alloc (.cells #[.int .i64 1, .int .i64 2, .int .i64 4] 3) = w2 at *
    have S1 := S2
    clear S2
    have c0 : w2.cell? ⟨w.heap.size + 2, 0, none⟩ = some (.int .i64 0) := row_cell S1.out.st.res1 0
    have c1 : w2.cell? ⟨w.heap.size + 2, 1, none⟩ = some (.slice none 0 0) := row_cell S1.out.st.res1 1
    have d0 : w2.cell? ⟨w.heap.size + 3, 0, none⟩ = some (.int .u8 0) := row_cell S1.out.st.res2 0
    have d1 : w2.cell? ⟨w.heap.size + 3, 1, none⟩ = some (.int .u8 0) := row_cell S1.out.st.res2 1
    have d2 : w2.cell? ⟨w.heap.size + 3, 2, none⟩ = some (.int .u8 0) := row_cell S1.out.st.res2 2
    have d3 : w2.cell? ⟨w.heap.size + 3, 3, none⟩ = some (.int .u8 0) := row_cell S1.out.st.res2 3
    have n0 : w2.cell? ⟨w.heap.size + 4, 0, none⟩ = some (.int .i64 0) := row_cell S1.out.no 0
    have n1 : w2.cell? ⟨w.heap.size + 4, 1, none⟩ = some (.slice none 0 0) := row_cell S1.out.no 1
    have f0 := row_frozen S1.out.st.res1 0
    have f1 := row_frozen S1.out.st.res1 1
    have k0 := row_frozen S1.out.st.res2 0
    have k1 := row_frozen S1.out.st.res2 1
    have k2 := row_frozen S1.out.st.res2 2
    have k3 := row_frozen S1.out.st.res2 3
    have R1 := Lib.hid (sto4_other (g := w.heap.size + 3) (o := 0) (r := z4) (sto2_row S1.out.st.res1 0 (.slice none 0 0)) (by omega))
    have R2 := Lib.hid (sto4_row (sto2_other (g := w.heap.size + 2) (p := 0) (v := .slice none 0 0) S1.out.st.res2 (by omega)) z4)
    have B2 := Lib.hid (sto4_below (o := 0) (r := z4) (sto2_below (p := 0) (v := .slice none 0 0) S1.out.st.bel (show w.heap.size ≤ w.heap.size + 2 by omega)) (show w.heap.size ≤ w.heap.size + 3 by omega))
    have b0 : w2.cell? ⟨w.heap.size, 0, none⟩ = some (.int .i64 p) := row_cell S1.out.st.box 0
    have b1' : w2.cell? ⟨w.heap.size, 1, none⟩ = some (.slice a n cap) := row_cell S1.out.st.box 1
    clear S1
    go_wp2
    (try simp only [Exit.inBlock, Exit.then])
    exact bodyPost_ret (results_do (p := 8) (q := 9) (r := 10) rfl _ _ (w.heap.size + 2) (w.heap.size + 3) 0 (.slice none 0 0) z4 5 rfl rfl rfl R1.out R2.out) rfl (E.out _ B2.out)
  · have hq1 : IntKind.i64.wrap (Int.tdiv p 4) = p / 4 := by rw [Int.tdiv_eq_ediv_of_nonneg p0]; exact IntWalk.i64_in _ (by omega)
    have hq2 : Int.tmod (p / 4) 2 = 0 := by rw [Int.tmod_eq_emod_of_nonneg (by omega)]; exact hq
    clear hq
    have hz : ¬ rec = 0 := by omega
    have hz2 : (rec == 0) = false := by simpa using hz
    go_enter Tryd.func31, Tryd.ntmps31
    go_wp2_with fail
    generalize ((((w.alloc (.cells #[.int .i64 p, .slice a n cap] 35)).alloc (.cells #[.int .u8 x.1, .int .u8 x.2.1, .int .u8 x.2.2.1, .int .u8 x.2.2.2] 32)).alloc (.cells #[.int .i64 0, .slice none 0 0] 35)).alloc (.cells #[.int .u8 0, .int .u8 0, .int .u8 0, .int .u8 0] 32)).alloc (.cells #[.int .i64 0, .slice none 0 0] 35) = W at *
    refine GR.out.mono ?_
    rintro e w1 ⟨rfl, b1⟩
    have S1 := Lib.hid (S0.out.mono b1)
    clear b1 S0 GR
    have b0 : w1.cell? ⟨w.heap.size, 0, none⟩ = some (.int .i64 p) := row_cell S1.out.st.box 0
    have b1' : w1.cell? ⟨w.heap.size, 1, none⟩ = some (.slice a n cap) := row_cell S1.out.st.box 1
    go_upto_region 9 with fail
    have S2 : Hid (StartR w p (.slice a n cap) x (w1.alloc (.cells #[.int .i64 1, .int .i64 2, .int .i64 4] 3))) := Lib.hid (S1.out.mono ((Below.refl _ _).alloc (Nat.le_refl _) _))
    clear b0 b1' S1
    generalize w1.alloc (.cells #[.int .i64 1, .int .i64 2, .int .i64 4] 3) = w2 at *
    have S1 := S2
    clear S2
    have c0 : w2.cell? ⟨w.heap.size + 2, 0, none⟩ = some (.int .i64 0) := row_cell S1.out.st.res1 0
    have c1 : w2.cell? ⟨w.heap.size + 2, 1, none⟩ = some (.slice none 0 0) := row_cell S1.out.st.res1 1
    have d0 : w2.cell? ⟨w.heap.size + 3, 0, none⟩ = some (.int .u8 0) := row_cell S1.out.st.res2 0
    have d1 : w2.cell? ⟨w.heap.size + 3, 1, none⟩ = some (.int .u8 0) := row_cell S1.out.st.res2 1
    have d2 : w2.cell? ⟨w.heap.size + 3, 2, none⟩ = some (.int .u8 0) := row_cell S1.out.st.res2 2
    have d3 : w2.cell? ⟨w.heap.size + 3, 3, none⟩ = some (.int .u8 0) := row_cell S1.out.st.res2 3
    have n0 : w2.cell? ⟨w.heap.size + 4, 0, none⟩ = some (.int .i64 0) := row_cell S1.out.no 0
    have n1 : w2.cell? ⟨w.heap.size + 4, 1, none⟩ = some (.slice none 0 0) := row_cell S1.out.no 1
    have f0 := row_frozen S1.out.st.res1 0
    have f1 := row_frozen S1.out.st.res1 1
    have k0 := row_frozen S1.out.st.res2 0
    have k1 := row_frozen S1.out.st.res2 1
    have k2 := row_frozen S1.out.st.res2 2
    have k3 := row_frozen S1.out.st.res2 3
    have R1 := Lib.hid (sto4_other (g := w.heap.size + 3) (o := 0) (r := z4) (sto2_row S1.out.st.res1 0 (.slice none 0 0)) (by omega))
    have R2 := Lib.hid (sto4_row (sto2_other (g := w.heap.size + 2) (p := 0) (v := .slice none 0 0) S1.out.st.res2 (by omega)) z4)
    have B2 := Lib.hid (sto4_below (o := 0) (r := z4) (sto2_below (p := 0) (v := .slice none 0 0) S1.out.st.bel (show w.heap.size ≤ w.heap.size + 2 by omega)) (show w.heap.size ≤ w.heap.size + 3 by omega))
    have b0 : w2.cell? ⟨w.heap.size, 0, none⟩ = some (.int .i64 p) := row_cell S1.out.st.box 0
    have b1' : w2.cell? ⟨w.heap.size, 1, none⟩ = some (.slice a n cap) := row_cell S1.out.st.box 1
    clear S1
    go_wp2
    (try simp only [Exit.inBlock, Exit.then])
    exact bodyPost_ret (results_do (p := 8) (q := 9) (r := 10) rfl _ _ (w.heap.size + 2) (w.heap.size + 3) 0 (.slice none 0 0) z4 5 rfl rfl rfl R1.out R2.out) rfl (E.out _ B2.out)

end Go.Proofs.YtoeemngekioldaaDoor.Fl
