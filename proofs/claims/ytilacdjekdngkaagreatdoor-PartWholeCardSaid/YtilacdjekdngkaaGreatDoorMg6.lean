/- Texts joined: FlRno, FlRdo. -/
import Derived.Test.YtilacdjekdngkaaGreatDoorMg2
import Derived.Deep.Cut
import Derived.ArgAppend

/- The document's own Do: which error. -/
namespace Go.Proofs.YtilacdjekdngkaaGreatDoor.Fl
open Go.RowKit
open Go.Proofs.YtilacdjekdngkaaGreatDoor.Rw (Rd Ow At)
attribute [local irreducible] Sd.wpSd wpQuiet Sf.wpSf

/-- Where the document's own Do stands. -/
structure StartR (w : World) (p : Int) (v : Value) (x : R4) (W : World) : Prop where
  st : Start w p v x W
  no : W.heap[w.heap.size + 4]? = some (.cells #[.int .i64 0, .slice none 0 0] 67 (0, 0))
theorem StartR.of (w : World) (p : Int) (v : Value) (x : R4) : StartR w p v x (((((w.alloc (.cells #[.int .i64 p, v] 67)).alloc (.cells (arr4 x) 71)).alloc (.cells #[.int .i64 0, .slice none 0 0] 67)).alloc (.cells (arr4 z4) 71)).alloc (.cells #[.int .i64 0, .slice none 0 0] 67)) := by
  have z4' : ∀ a b c d, ((((w.alloc a).alloc b).alloc c).alloc d).heap.size = w.heap.size + 4 := fun a b c d => by simp
  refine ⟨(Start.of w p v x).mono ((Below.refl _ _).alloc (Nat.le_refl _) _), ?_⟩
  have := heap_alloc_new ((((w.alloc (.cells #[.int .i64 p, v] 67)).alloc (.cells (arr4 x) 71)).alloc (.cells #[.int .i64 0, .slice none 0 0] 67)).alloc (.cells (arr4 z4) 71)) (.cells #[.int .i64 0, .slice none 0 0] 67)
  rw [z4'] at this
  exact this
theorem StartR.mono {w W W' : World} {p : Int} {v : Value} {x : R4} (h : StartR w p v x W) (b : Below W.heap.size W W') : StartR w p v x W' := ⟨h.st.mono b, (b.block _ (lt_of_block h.no)).trans h.no⟩

set_option maxHeartbeats 400000 in
theorem rdo_2 (w : World) (p : Int) (a : Option Addr) (n cap : Nat) (l : List R4) (R : Rd K4 w (.slice a n cap) l) (op rec : Int) (x : R4) (hg : ¬ goodF p l) : Calls Tryz.prog 70 #[file p (.slice a n cap), .int .i64 op, .int .i64 rec, rec4 x] w (DoPost w p l op rec x) := by
  have S0 : Hid (StartR w p (.slice a n cap) x (((((w.alloc (.cells #[.int .i64 p, .slice a n cap] 67)).alloc (.cells #[.int .u8 x.1, .int .u8 x.2.1, .int .u8 x.2.2.1, .int .u8 x.2.2.2] 71)).alloc (.cells #[.int .i64 0, .slice none 0 0] 67)).alloc (.cells #[.int .u8 0, .int .u8 0, .int .u8 0, .int .u8 0] 71)).alloc (.cells #[.int .i64 0, .slice none 0 0] 67))) := Lib.hid (StartR.of w p _ x)
  have GR := Lib.hid (at_bool (show goodFB p l = false from decide_eq_false hg) (rgood_any _ p _ l (R.below S0.out.st.bel)))
  have E : Hid (∀ w', Below w.heap.size w w' → DoPost w p l op rec x (.returned (.tuple #[file 0 (.slice none 0 0), rec4 z4, .int .i64 2])) w') := by
    have he : doE p l op rec = 2 := doE_2 hg
    exact fun w' h => ⟨.slice none 0 0, by rw [he]; rfl, by rw [he]; exact Ow.nil _ _ _, h⟩
  have hn : n = l.length := by
    obtain ⟨a', cap', e, _⟩ := R
    injection e
  clear R hg hn
  unfold file rec4 at *
  go_enter Tryz.func70, Tryz.ntmps70
  go_wp2_with fail
  generalize ((((w.alloc (.cells #[.int .i64 p, .slice a n cap] 67)).alloc (.cells #[.int .u8 x.1, .int .u8 x.2.1, .int .u8 x.2.2.1, .int .u8 x.2.2.2] 71)).alloc (.cells #[.int .i64 0, .slice none 0 0] 67)).alloc (.cells #[.int .u8 0, .int .u8 0, .int .u8 0, .int .u8 0] 71)).alloc (.cells #[.int .i64 0, .slice none 0 0] 67) = W at *
  refine GR.out.mono ?_
  rintro e w1 ⟨rfl, b1⟩
  have S1 := Lib.hid (S0.out.mono b1)
  clear b1 S0 GR
  have c0 : w1.cell? ⟨w.heap.size + 2, 0, none⟩ = some (.int .i64 0) := row_cell S1.out.st.res1 0
  have c1 : w1.cell? ⟨w.heap.size + 2, 1, none⟩ = some (.slice none 0 0) := row_cell S1.out.st.res1 1
  have d0 : w1.cell? ⟨w.heap.size + 3, 0, none⟩ = some (.int .u8 0) := row_cell S1.out.st.res2 0
  have d1 : w1.cell? ⟨w.heap.size + 3, 1, none⟩ = some (.int .u8 0) := row_cell S1.out.st.res2 1
  have d2 : w1.cell? ⟨w.heap.size + 3, 2, none⟩ = some (.int .u8 0) := row_cell S1.out.st.res2 2
  have d3 : w1.cell? ⟨w.heap.size + 3, 3, none⟩ = some (.int .u8 0) := row_cell S1.out.st.res2 3
  have n0 : w1.cell? ⟨w.heap.size + 4, 0, none⟩ = some (.int .i64 0) := row_cell S1.out.no 0
  have n1 : w1.cell? ⟨w.heap.size + 4, 1, none⟩ = some (.slice none 0 0) := row_cell S1.out.no 1
  have f0 := row_frozen S1.out.st.res1 0
  have f1 := row_frozen S1.out.st.res1 1
  have k0 := row_frozen S1.out.st.res2 0
  have k1 := row_frozen S1.out.st.res2 1
  have k2 := row_frozen S1.out.st.res2 2
  have k3 := row_frozen S1.out.st.res2 3
  have R1 := Lib.hid (sto4_other (g := w.heap.size + 3) (o := 0) (r := z4) (sto2_row S1.out.st.res1 0 (.slice none 0 0)) (by omega))
  have R2 := Lib.hid (sto4_row (sto2_other (g := w.heap.size + 2) (p := 0) (v := .slice none 0 0) S1.out.st.res2 (by omega)) z4)
  have B2 := Lib.hid (sto4_below (o := 0) (r := z4) (sto2_below (p := 0) (v := .slice none 0 0) S1.out.st.bel (show w.heap.size ≤ w.heap.size + 2 by omega)) (show w.heap.size ≤ w.heap.size + 3 by omega))
  have b0 : w1.cell? ⟨w.heap.size, 0, none⟩ = some (.int .i64 p) := row_cell S1.out.st.box 0
  have b1' : w1.cell? ⟨w.heap.size, 1, none⟩ = some (.slice a n cap) := row_cell S1.out.st.box 1
  clear S1
  go_wp2
  (try simp only [Exit.inBlock, Exit.then])
  exact bodyPost_ret (results_do (p := 8) (q := 9) (r := 10) rfl _ _ (w.heap.size + 2) (w.heap.size + 3) 0 (.slice none 0 0) z4 2 rfl rfl rfl R1.out R2.out) rfl (E.out _ B2.out)

set_option maxHeartbeats 400000 in
theorem rdo_1 (w : World) (p : Int) (a : Option Addr) (n cap : Nat) (l : List R4) (R : Rd K4 w (.slice a n cap) l) (op rec : Int) (x : R4) (hg : goodF p l) (ho : ¬ (0 ≤ op ∧ op ≤ 2)) : Calls Tryz.prog 70 #[file p (.slice a n cap), .int .i64 op, .int .i64 rec, rec4 x] w (DoPost w p l op rec x) := by
  have S0 : Hid (StartR w p (.slice a n cap) x (((((w.alloc (.cells #[.int .i64 p, .slice a n cap] 67)).alloc (.cells #[.int .u8 x.1, .int .u8 x.2.1, .int .u8 x.2.2.1, .int .u8 x.2.2.2] 71)).alloc (.cells #[.int .i64 0, .slice none 0 0] 67)).alloc (.cells #[.int .u8 0, .int .u8 0, .int .u8 0, .int .u8 0] 71)).alloc (.cells #[.int .i64 0, .slice none 0 0] 67))) := Lib.hid (StartR.of w p _ x)
  have GR := Lib.hid (at_bool (show goodFB p l = true from decide_eq_true hg) (rgood_any _ p _ l (R.below S0.out.st.bel)))
  have E : Hid (∀ w', Below w.heap.size w w' → DoPost w p l op rec x (.returned (.tuple #[file 0 (.slice none 0 0), rec4 z4, .int .i64 1])) w') := by
    have he : doE p l op rec = 1 := doE_1 hg ho
    exact fun w' h => ⟨.slice none 0 0, by rw [he]; rfl, by rw [he]; exact Ow.nil _ _ _, h⟩
  have hn : n = l.length := by
    obtain ⟨a', cap', e, _⟩ := R
    injection e
  clear R hg hn
  unfold file rec4 at *
  have ho2 : op < 0 ∨ (0 ≤ op ∧ 2 < op) := by omega
  clear ho
  rcases ho2 with ho | ⟨ho, ho2⟩
  all_goals
    go_enter Tryz.func70, Tryz.ntmps70
    go_wp2_with fail
    generalize ((((w.alloc (.cells #[.int .i64 p, .slice a n cap] 67)).alloc (.cells #[.int .u8 x.1, .int .u8 x.2.1, .int .u8 x.2.2.1, .int .u8 x.2.2.2] 71)).alloc (.cells #[.int .i64 0, .slice none 0 0] 67)).alloc (.cells #[.int .u8 0, .int .u8 0, .int .u8 0, .int .u8 0] 71)).alloc (.cells #[.int .i64 0, .slice none 0 0] 67) = W at *
    refine GR.out.mono ?_
    rintro e w1 ⟨rfl, b1⟩
    have S1 := Lib.hid (S0.out.mono b1)
    clear b1 S0 GR
    have c0 : w1.cell? ⟨w.heap.size + 2, 0, none⟩ = some (.int .i64 0) := row_cell S1.out.st.res1 0
    have c1 : w1.cell? ⟨w.heap.size + 2, 1, none⟩ = some (.slice none 0 0) := row_cell S1.out.st.res1 1
    have d0 : w1.cell? ⟨w.heap.size + 3, 0, none⟩ = some (.int .u8 0) := row_cell S1.out.st.res2 0
    have d1 : w1.cell? ⟨w.heap.size + 3, 1, none⟩ = some (.int .u8 0) := row_cell S1.out.st.res2 1
    have d2 : w1.cell? ⟨w.heap.size + 3, 2, none⟩ = some (.int .u8 0) := row_cell S1.out.st.res2 2
    have d3 : w1.cell? ⟨w.heap.size + 3, 3, none⟩ = some (.int .u8 0) := row_cell S1.out.st.res2 3
    have n0 : w1.cell? ⟨w.heap.size + 4, 0, none⟩ = some (.int .i64 0) := row_cell S1.out.no 0
    have n1 : w1.cell? ⟨w.heap.size + 4, 1, none⟩ = some (.slice none 0 0) := row_cell S1.out.no 1
    have f0 := row_frozen S1.out.st.res1 0
    have f1 := row_frozen S1.out.st.res1 1
    have k0 := row_frozen S1.out.st.res2 0
    have k1 := row_frozen S1.out.st.res2 1
    have k2 := row_frozen S1.out.st.res2 2
    have k3 := row_frozen S1.out.st.res2 3
    have R1 := Lib.hid (sto4_other (g := w.heap.size + 3) (o := 0) (r := z4) (sto2_row S1.out.st.res1 0 (.slice none 0 0)) (by omega))
    have R2 := Lib.hid (sto4_row (sto2_other (g := w.heap.size + 2) (p := 0) (v := .slice none 0 0) S1.out.st.res2 (by omega)) z4)
    have B2 := Lib.hid (sto4_below (o := 0) (r := z4) (sto2_below (p := 0) (v := .slice none 0 0) S1.out.st.bel (show w.heap.size ≤ w.heap.size + 2 by omega)) (show w.heap.size ≤ w.heap.size + 3 by omega))
    have b0 : w1.cell? ⟨w.heap.size, 0, none⟩ = some (.int .i64 p) := row_cell S1.out.st.box 0
    have b1' : w1.cell? ⟨w.heap.size, 1, none⟩ = some (.slice a n cap) := row_cell S1.out.st.box 1
    clear S1
    go_wp2
    (try simp only [Exit.inBlock, Exit.then])
    exact bodyPost_ret (results_do (p := 8) (q := 9) (r := 10) rfl _ _ (w.heap.size + 2) (w.heap.size + 3) 0 (.slice none 0 0) z4 1 rfl rfl rfl R1.out R2.out) rfl (E.out _ B2.out)

set_option maxHeartbeats 400000 in
theorem rdo_4 (w : World) (p : Int) (a : Option Addr) (n cap : Nat) (l : List R4) (R : Rd K4 w (.slice a n cap) l) (op rec : Int) (x : R4) (hg : goodF p l) (ho : 0 ≤ op ∧ op ≤ 2) (hr : ¬ (0 ≤ rec ∧ rec < l.length)) : Calls Tryz.prog 70 #[file p (.slice a n cap), .int .i64 op, .int .i64 rec, rec4 x] w (DoPost w p l op rec x) := by
  have S0 : Hid (StartR w p (.slice a n cap) x (((((w.alloc (.cells #[.int .i64 p, .slice a n cap] 67)).alloc (.cells #[.int .u8 x.1, .int .u8 x.2.1, .int .u8 x.2.2.1, .int .u8 x.2.2.2] 71)).alloc (.cells #[.int .i64 0, .slice none 0 0] 67)).alloc (.cells #[.int .u8 0, .int .u8 0, .int .u8 0, .int .u8 0] 71)).alloc (.cells #[.int .i64 0, .slice none 0 0] 67))) := Lib.hid (StartR.of w p _ x)
  have GR := Lib.hid (at_bool (show goodFB p l = true from decide_eq_true hg) (rgood_any _ p _ l (R.below S0.out.st.bel)))
  have E : Hid (∀ w', Below w.heap.size w w' → DoPost w p l op rec x (.returned (.tuple #[file 0 (.slice none 0 0), rec4 z4, .int .i64 4])) w') := by
    have he : doE p l op rec = 4 := doE_4 hg ho hr
    exact fun w' h => ⟨.slice none 0 0, by rw [he]; rfl, by rw [he]; exact Ow.nil _ _ _, h⟩
  have hn : n = l.length := by
    obtain ⟨a', cap', e, _⟩ := R
    injection e
  clear R hg
  unfold file rec4 at *
  have hr2 : rec < 0 ∨ (0 ≤ rec ∧ (n : Int) ≤ rec) := by omega
  clear hr hn
  obtain ⟨ho0, ho1⟩ := ho
  have hop : op = 0 ∨ op = 1 ∨ op = 2 := by omega
  clear ho0 ho1
  rcases hr2 with hr | ⟨hr, hr2⟩ <;> rcases hop with rfl | rfl | rfl
  all_goals
    go_enter Tryz.func70, Tryz.ntmps70
    go_wp2_with fail
    generalize ((((w.alloc (.cells #[.int .i64 p, .slice a n cap] 67)).alloc (.cells #[.int .u8 x.1, .int .u8 x.2.1, .int .u8 x.2.2.1, .int .u8 x.2.2.2] 71)).alloc (.cells #[.int .i64 0, .slice none 0 0] 67)).alloc (.cells #[.int .u8 0, .int .u8 0, .int .u8 0, .int .u8 0] 71)).alloc (.cells #[.int .i64 0, .slice none 0 0] 67) = W at *
    refine GR.out.mono ?_
    rintro e w1 ⟨rfl, b1⟩
    have S1 := Lib.hid (S0.out.mono b1)
    clear b1 S0 GR
    have c0 : w1.cell? ⟨w.heap.size + 2, 0, none⟩ = some (.int .i64 0) := row_cell S1.out.st.res1 0
    have c1 : w1.cell? ⟨w.heap.size + 2, 1, none⟩ = some (.slice none 0 0) := row_cell S1.out.st.res1 1
    have d0 : w1.cell? ⟨w.heap.size + 3, 0, none⟩ = some (.int .u8 0) := row_cell S1.out.st.res2 0
    have d1 : w1.cell? ⟨w.heap.size + 3, 1, none⟩ = some (.int .u8 0) := row_cell S1.out.st.res2 1
    have d2 : w1.cell? ⟨w.heap.size + 3, 2, none⟩ = some (.int .u8 0) := row_cell S1.out.st.res2 2
    have d3 : w1.cell? ⟨w.heap.size + 3, 3, none⟩ = some (.int .u8 0) := row_cell S1.out.st.res2 3
    have n0 : w1.cell? ⟨w.heap.size + 4, 0, none⟩ = some (.int .i64 0) := row_cell S1.out.no 0
    have n1 : w1.cell? ⟨w.heap.size + 4, 1, none⟩ = some (.slice none 0 0) := row_cell S1.out.no 1
    have f0 := row_frozen S1.out.st.res1 0
    have f1 := row_frozen S1.out.st.res1 1
    have k0 := row_frozen S1.out.st.res2 0
    have k1 := row_frozen S1.out.st.res2 1
    have k2 := row_frozen S1.out.st.res2 2
    have k3 := row_frozen S1.out.st.res2 3
    have R1 := Lib.hid (sto4_other (g := w.heap.size + 3) (o := 0) (r := z4) (sto2_row S1.out.st.res1 0 (.slice none 0 0)) (by omega))
    have R2 := Lib.hid (sto4_row (sto2_other (g := w.heap.size + 2) (p := 0) (v := .slice none 0 0) S1.out.st.res2 (by omega)) z4)
    have B2 := Lib.hid (sto4_below (o := 0) (r := z4) (sto2_below (p := 0) (v := .slice none 0 0) S1.out.st.bel (show w.heap.size ≤ w.heap.size + 2 by omega)) (show w.heap.size ≤ w.heap.size + 3 by omega))
    have b0 : w1.cell? ⟨w.heap.size, 0, none⟩ = some (.int .i64 p) := row_cell S1.out.st.box 0
    have b1' : w1.cell? ⟨w.heap.size, 1, none⟩ = some (.slice a n cap) := row_cell S1.out.st.box 1
    clear S1
    go_wp2
    (try simp only [Exit.inBlock, Exit.then])
    exact bodyPost_ret (results_do (p := 8) (q := 9) (r := 10) rfl _ _ (w.heap.size + 2) (w.heap.size + 3) 0 (.slice none 0 0) z4 4 rfl rfl rfl R1.out R2.out) rfl (E.out _ B2.out)

theorem five {p op rec : Int} (ho : 0 ≤ op ∧ op ≤ 2) (hr : 0 ≤ rec) (hk : ¬ (rec = 0 ∧ op = 0 ∨ 0 < rec ∧ p / need op % 2 = 1)) : op = 0 ∧ 0 < rec ∧ p / 1 % 2 = 0 ∨ op = 1 ∧ rec = 0 ∨ op = 1 ∧ 0 < rec ∧ p / 2 % 2 = 0 ∨ op = 2 ∧ rec = 0 ∨ op = 2 ∧ 0 < rec ∧ p / 4 % 2 = 0 := by
  rcases (by omega : op = 0 ∨ op = 1 ∨ op = 2) with rfl | rfl | rfl
  · rw [show need 0 = 1 from rfl] at hk; omega
  · rw [show need 1 = 2 from rfl] at hk; omega
  · rw [show need 2 = 4 from rfl] at hk; omega
set_option maxHeartbeats 400000 in
theorem rdo_5 (w : World) (p : Int) (a : Option Addr) (n cap : Nat) (l : List R4) (R : Rd K4 w (.slice a n cap) l) (op rec : Int) (x : R4) (hg : goodF p l) (ho : 0 ≤ op ∧ op ≤ 2) (hr : 0 ≤ rec ∧ rec < l.length) (hk : ¬ (rec = 0 ∧ op = 0 ∨ 0 < rec ∧ p / need op % 2 = 1)) : Calls Tryz.prog 70 #[file p (.slice a n cap), .int .i64 op, .int .i64 rec, rec4 x] w (DoPost w p l op rec x) := by
  have S0 : Hid (StartR w p (.slice a n cap) x (((((w.alloc (.cells #[.int .i64 p, .slice a n cap] 67)).alloc (.cells #[.int .u8 x.1, .int .u8 x.2.1, .int .u8 x.2.2.1, .int .u8 x.2.2.2] 71)).alloc (.cells #[.int .i64 0, .slice none 0 0] 67)).alloc (.cells #[.int .u8 0, .int .u8 0, .int .u8 0, .int .u8 0] 71)).alloc (.cells #[.int .i64 0, .slice none 0 0] 67))) := Lib.hid (StartR.of w p _ x)
  have GR := Lib.hid (at_bool (show goodFB p l = true from decide_eq_true hg) (rgood_any _ p _ l (R.below S0.out.st.bel)))
  have E : Hid (∀ w', Below w.heap.size w w' → DoPost w p l op rec x (.returned (.tuple #[file 0 (.slice none 0 0), rec4 z4, .int .i64 5])) w') := by
    have he : doE p l op rec = 5 := doE_5 hg ho hr hk
    exact fun w' h => ⟨.slice none 0 0, by rw [he]; rfl, by rw [he]; exact Ow.nil _ _ _, h⟩
  have hn : n = l.length := by
    obtain ⟨a', cap', e, _⟩ := R
    injection e
  have p0 : 0 ≤ p := hg.1
  have p1 : p ≤ 7 := hg.2.1
  clear R hg
  unfold file rec4 at *
  obtain ⟨ho0, ho1⟩ := ho
  obtain ⟨hr0, hr1⟩ := hr
  rw [← hn] at hr1
  have hop : op = 0 ∧ 0 < rec ∧ p / 1 % 2 = 0 ∨ op = 1 ∧ rec = 0 ∨ op = 1 ∧ 0 < rec ∧ p / 2 % 2 = 0 ∨ op = 2 ∧ rec = 0 ∨ op = 2 ∧ 0 < rec ∧ p / 4 % 2 = 0 := five ⟨ho0, ho1⟩ hr0 hk
  clear ho0 ho1 hk hn
  rcases hop with ⟨rfl, hr2, hq⟩ | ⟨rfl, rfl⟩ | ⟨rfl, hr2, hq⟩ | ⟨rfl, rfl⟩ | ⟨rfl, hr2, hq⟩
  · have hq1 : IntKind.i64.wrap p = p := IntWalk.i64_in _ (by omega)
    have hq2 : Int.tmod p 2 = 0 := by rw [Int.tmod_eq_emod_of_nonneg p0]; omega
    clear hq
    have hz : ¬ rec = 0 := by omega
    have hz2 : (rec == 0) = false := by simpa using hz
    go_enter Tryz.func70, Tryz.ntmps70
    go_wp2_with fail
    generalize ((((w.alloc (.cells #[.int .i64 p, .slice a n cap] 67)).alloc (.cells #[.int .u8 x.1, .int .u8 x.2.1, .int .u8 x.2.2.1, .int .u8 x.2.2.2] 71)).alloc (.cells #[.int .i64 0, .slice none 0 0] 67)).alloc (.cells #[.int .u8 0, .int .u8 0, .int .u8 0, .int .u8 0] 71)).alloc (.cells #[.int .i64 0, .slice none 0 0] 67) = W at *
    refine GR.out.mono ?_
    rintro e w1 ⟨rfl, b1⟩
    have S1 := Lib.hid (S0.out.mono b1)
    clear b1 S0 GR
    have b0 : w1.cell? ⟨w.heap.size, 0, none⟩ = some (.int .i64 p) := row_cell S1.out.st.box 0
    have b1' : w1.cell? ⟨w.heap.size, 1, none⟩ = some (.slice a n cap) := row_cell S1.out.st.box 1
    go_upto_region 9 with fail
    have S2 : Hid (StartR w p (.slice a n cap) x (w1.alloc (.cells #[.int .i64 1, .int .i64 2, .int .i64 4] 3))) := Lib.hid (S1.out.mono ((Below.refl _ _).alloc (Nat.le_refl _) _))
    clear b0 b1' S1
    generalize w1.alloc (.cells #[.int .i64 1, .int .i64 2, .int .i64 4] 3) = w2 at *
    have S1 := S2
    clear S2
    have c0 : w2.cell? ⟨w.heap.size + 2, 0, none⟩ = some (.int .i64 0) := row_cell S1.out.st.res1 0
    have c1 : w2.cell? ⟨w.heap.size + 2, 1, none⟩ = some (.slice none 0 0) := row_cell S1.out.st.res1 1
    have d0 : w2.cell? ⟨w.heap.size + 3, 0, none⟩ = some (.int .u8 0) := row_cell S1.out.st.res2 0
    have d1 : w2.cell? ⟨w.heap.size + 3, 1, none⟩ = some (.int .u8 0) := row_cell S1.out.st.res2 1
    have d2 : w2.cell? ⟨w.heap.size + 3, 2, none⟩ = some (.int .u8 0) := row_cell S1.out.st.res2 2
    have d3 : w2.cell? ⟨w.heap.size + 3, 3, none⟩ = some (.int .u8 0) := row_cell S1.out.st.res2 3
    have n0 : w2.cell? ⟨w.heap.size + 4, 0, none⟩ = some (.int .i64 0) := row_cell S1.out.no 0
    have n1 : w2.cell? ⟨w.heap.size + 4, 1, none⟩ = some (.slice none 0 0) := row_cell S1.out.no 1
    have f0 := row_frozen S1.out.st.res1 0
    have f1 := row_frozen S1.out.st.res1 1
    have k0 := row_frozen S1.out.st.res2 0
    have k1 := row_frozen S1.out.st.res2 1
    have k2 := row_frozen S1.out.st.res2 2
    have k3 := row_frozen S1.out.st.res2 3
    have R1 := Lib.hid (sto4_other (g := w.heap.size + 3) (o := 0) (r := z4) (sto2_row S1.out.st.res1 0 (.slice none 0 0)) (by omega))
    have R2 := Lib.hid (sto4_row (sto2_other (g := w.heap.size + 2) (p := 0) (v := .slice none 0 0) S1.out.st.res2 (by omega)) z4)
    have B2 := Lib.hid (sto4_below (o := 0) (r := z4) (sto2_below (p := 0) (v := .slice none 0 0) S1.out.st.bel (show w.heap.size ≤ w.heap.size + 2 by omega)) (show w.heap.size ≤ w.heap.size + 3 by omega))
    have b0 : w2.cell? ⟨w.heap.size, 0, none⟩ = some (.int .i64 p) := row_cell S1.out.st.box 0
    have b1' : w2.cell? ⟨w.heap.size, 1, none⟩ = some (.slice a n cap) := row_cell S1.out.st.box 1
    clear S1
    go_wp2
    (try simp only [Exit.inBlock, Exit.then])
    exact bodyPost_ret (results_do (p := 8) (q := 9) (r := 10) rfl _ _ (w.heap.size + 2) (w.heap.size + 3) 0 (.slice none 0 0) z4 5 rfl rfl rfl R1.out R2.out) rfl (E.out _ B2.out)
  · go_enter Tryz.func70, Tryz.ntmps70
    go_wp2_with fail
    generalize ((((w.alloc (.cells #[.int .i64 p, .slice a n cap] 67)).alloc (.cells #[.int .u8 x.1, .int .u8 x.2.1, .int .u8 x.2.2.1, .int .u8 x.2.2.2] 71)).alloc (.cells #[.int .i64 0, .slice none 0 0] 67)).alloc (.cells #[.int .u8 0, .int .u8 0, .int .u8 0, .int .u8 0] 71)).alloc (.cells #[.int .i64 0, .slice none 0 0] 67) = W at *
    refine GR.out.mono ?_
    rintro e w1 ⟨rfl, b1⟩
    have S1 := Lib.hid (S0.out.mono b1)
    clear b1 S0 GR
    have b0 : w1.cell? ⟨w.heap.size, 0, none⟩ = some (.int .i64 p) := row_cell S1.out.st.box 0
    have b1' : w1.cell? ⟨w.heap.size, 1, none⟩ = some (.slice a n cap) := row_cell S1.out.st.box 1
    go_upto_region 9 with fail
    have S2 : Hid (StartR w p (.slice a n cap) x (w1.alloc (.cells #[.int .i64 1, .int .i64 2, .int .i64 4] 3))) := Lib.hid (S1.out.mono ((Below.refl _ _).alloc (Nat.le_refl _) _))
    clear b0 b1' S1
    generalize w1.alloc (.cells #[.int .i64 1, .int .i64 2, .int .i64 4] 3) = w2 at *
    have S1 := S2
    clear S2
    have c0 : w2.cell? ⟨w.heap.size + 2, 0, none⟩ = some (.int .i64 0) := row_cell S1.out.st.res1 0
    have c1 : w2.cell? ⟨w.heap.size + 2, 1, none⟩ = some (.slice none 0 0) := row_cell S1.out.st.res1 1
    have d0 : w2.cell? ⟨w.heap.size + 3, 0, none⟩ = some (.int .u8 0) := row_cell S1.out.st.res2 0
    have d1 : w2.cell? ⟨w.heap.size + 3, 1, none⟩ = some (.int .u8 0) := row_cell S1.out.st.res2 1
    have d2 : w2.cell? ⟨w.heap.size + 3, 2, none⟩ = some (.int .u8 0) := row_cell S1.out.st.res2 2
    have d3 : w2.cell? ⟨w.heap.size + 3, 3, none⟩ = some (.int .u8 0) := row_cell S1.out.st.res2 3
    have n0 : w2.cell? ⟨w.heap.size + 4, 0, none⟩ = some (.int .i64 0) := row_cell S1.out.no 0
    have n1 : w2.cell? ⟨w.heap.size + 4, 1, none⟩ = some (.slice none 0 0) := row_cell S1.out.no 1
    have f0 := row_frozen S1.out.st.res1 0
    have f1 := row_frozen S1.out.st.res1 1
    have k0 := row_frozen S1.out.st.res2 0
    have k1 := row_frozen S1.out.st.res2 1
    have k2 := row_frozen S1.out.st.res2 2
    have k3 := row_frozen S1.out.st.res2 3
    have R1 := Lib.hid (sto4_other (g := w.heap.size + 3) (o := 0) (r := z4) (sto2_row S1.out.st.res1 0 (.slice none 0 0)) (by omega))
    have R2 := Lib.hid (sto4_row (sto2_other (g := w.heap.size + 2) (p := 0) (v := .slice none 0 0) S1.out.st.res2 (by omega)) z4)
    have B2 := Lib.hid (sto4_below (o := 0) (r := z4) (sto2_below (p := 0) (v := .slice none 0 0) S1.out.st.bel (show w.heap.size ≤ w.heap.size + 2 by omega)) (show w.heap.size ≤ w.heap.size + 3 by omega))
    have b0 : w2.cell? ⟨w.heap.size, 0, none⟩ = some (.int .i64 p) := row_cell S1.out.st.box 0
    have b1' : w2.cell? ⟨w.heap.size, 1, none⟩ = some (.slice a n cap) := row_cell S1.out.st.box 1
    clear S1
    go_wp2
    (try simp only [Exit.inBlock, Exit.then])
    exact bodyPost_ret (results_do (p := 8) (q := 9) (r := 10) rfl _ _ (w.heap.size + 2) (w.heap.size + 3) 0 (.slice none 0 0) z4 5 rfl rfl rfl R1.out R2.out) rfl (E.out _ B2.out)
  · have hq1 : IntKind.i64.wrap (Int.tdiv p 2) = p / 2 := by rw [Int.tdiv_eq_ediv_of_nonneg p0]; exact IntWalk.i64_in _ (by omega)
    have hq2 : Int.tmod (p / 2) 2 = 0 := by rw [Int.tmod_eq_emod_of_nonneg (by omega)]; exact hq
    clear hq
    have hz : ¬ rec = 0 := by omega
    have hz2 : (rec == 0) = false := by simpa using hz
    go_enter Tryz.func70, Tryz.ntmps70
    go_wp2_with fail
    generalize ((((w.alloc (.cells #[.int .i64 p, .slice a n cap] 67)).alloc (.cells #[.int .u8 x.1, .int .u8 x.2.1, .int .u8 x.2.2.1, .int .u8 x.2.2.2] 71)).alloc (.cells #[.int .i64 0, .slice none 0 0] 67)).alloc (.cells #[.int .u8 0, .int .u8 0, .int .u8 0, .int .u8 0] 71)).alloc (.cells #[.int .i64 0, .slice none 0 0] 67) = W at *
    refine GR.out.mono ?_
    rintro e w1 ⟨rfl, b1⟩
    have S1 := Lib.hid (S0.out.mono b1)
    clear b1 S0 GR
    have b0 : w1.cell? ⟨w.heap.size, 0, none⟩ = some (.int .i64 p) := row_cell S1.out.st.box 0
    have b1' : w1.cell? ⟨w.heap.size, 1, none⟩ = some (.slice a n cap) := row_cell S1.out.st.box 1
    go_upto_region 9 with fail
    have S2 : Hid (StartR w p (.slice a n cap) x (w1.alloc (.cells #[.int .i64 1, .int .i64 2, .int .i64 4] 3))) := Lib.hid (S1.out.mono ((Below.refl _ _).alloc (Nat.le_refl _) _))
    clear b0 b1' S1
    generalize w1.alloc (.cells #[.int .i64 1, .int .i64 2, .int .i64 4] 3) = w2 at *
    have S1 := S2
    clear S2
    have c0 : w2.cell? ⟨w.heap.size + 2, 0, none⟩ = some (.int .i64 0) := row_cell S1.out.st.res1 0
    have c1 : w2.cell? ⟨w.heap.size + 2, 1, none⟩ = some (.slice none 0 0) := row_cell S1.out.st.res1 1
    have d0 : w2.cell? ⟨w.heap.size + 3, 0, none⟩ = some (.int .u8 0) := row_cell S1.out.st.res2 0
    have d1 : w2.cell? ⟨w.heap.size + 3, 1, none⟩ = some (.int .u8 0) := row_cell S1.out.st.res2 1
    have d2 : w2.cell? ⟨w.heap.size + 3, 2, none⟩ = some (.int .u8 0) := row_cell S1.out.st.res2 2
    have d3 : w2.cell? ⟨w.heap.size + 3, 3, none⟩ = some (.int .u8 0) := row_cell S1.out.st.res2 3
    have n0 : w2.cell? ⟨w.heap.size + 4, 0, none⟩ = some (.int .i64 0) := row_cell S1.out.no 0
    have n1 : w2.cell? ⟨w.heap.size + 4, 1, none⟩ = some (.slice none 0 0) := row_cell S1.out.no 1
    have f0 := row_frozen S1.out.st.res1 0
    have f1 := row_frozen S1.out.st.res1 1
    have k0 := row_frozen S1.out.st.res2 0
    have k1 := row_frozen S1.out.st.res2 1
    have k2 := row_frozen S1.out.st.res2 2
    have k3 := row_frozen S1.out.st.res2 3
    have R1 := Lib.hid (sto4_other (g := w.heap.size + 3) (o := 0) (r := z4) (sto2_row S1.out.st.res1 0 (.slice none 0 0)) (by omega))
    have R2 := Lib.hid (sto4_row (sto2_other (g := w.heap.size + 2) (p := 0) (v := .slice none 0 0) S1.out.st.res2 (by omega)) z4)
    have B2 := Lib.hid (sto4_below (o := 0) (r := z4) (sto2_below (p := 0) (v := .slice none 0 0) S1.out.st.bel (show w.heap.size ≤ w.heap.size + 2 by omega)) (show w.heap.size ≤ w.heap.size + 3 by omega))
    have b0 : w2.cell? ⟨w.heap.size, 0, none⟩ = some (.int .i64 p) := row_cell S1.out.st.box 0
    have b1' : w2.cell? ⟨w.heap.size, 1, none⟩ = some (.slice a n cap) := row_cell S1.out.st.box 1
    clear S1
    go_wp2
    (try simp only [Exit.inBlock, Exit.then])
    exact bodyPost_ret (results_do (p := 8) (q := 9) (r := 10) rfl _ _ (w.heap.size + 2) (w.heap.size + 3) 0 (.slice none 0 0) z4 5 rfl rfl rfl R1.out R2.out) rfl (E.out _ B2.out)
  · go_enter Tryz.func70, Tryz.ntmps70
    go_wp2_with fail
    generalize ((((w.alloc (.cells #[.int .i64 p, .slice a n cap] 67)).alloc (.cells #[.int .u8 x.1, .int .u8 x.2.1, .int .u8 x.2.2.1, .int .u8 x.2.2.2] 71)).alloc (.cells #[.int .i64 0, .slice none 0 0] 67)).alloc (.cells #[.int .u8 0, .int .u8 0, .int .u8 0, .int .u8 0] 71)).alloc (.cells #[.int .i64 0, .slice none 0 0] 67) = W at *
    refine GR.out.mono ?_
    rintro e w1 ⟨rfl, b1⟩
    have S1 := Lib.hid (S0.out.mono b1)
    clear b1 S0 GR
    have b0 : w1.cell? ⟨w.heap.size, 0, none⟩ = some (.int .i64 p) := row_cell S1.out.st.box 0
    have b1' : w1.cell? ⟨w.heap.size, 1, none⟩ = some (.slice a n cap) := row_cell S1.out.st.box 1
    go_upto_region 9 with fail
    have S2 : Hid (StartR w p (.slice a n cap) x (w1.alloc (.cells #[.int .i64 1, .int .i64 2, .int .i64 4] 3))) := Lib.hid (S1.out.mono ((Below.refl _ _).alloc (Nat.le_refl _) _))
    clear b0 b1' S1
    generalize w1.alloc (.cells #[.int .i64 1, .int .i64 2, .int .i64 4] 3) = w2 at *
    have S1 := S2
    clear S2
    have c0 : w2.cell? ⟨w.heap.size + 2, 0, none⟩ = some (.int .i64 0) := row_cell S1.out.st.res1 0
    have c1 : w2.cell? ⟨w.heap.size + 2, 1, none⟩ = some (.slice none 0 0) := row_cell S1.out.st.res1 1
    have d0 : w2.cell? ⟨w.heap.size + 3, 0, none⟩ = some (.int .u8 0) := row_cell S1.out.st.res2 0
    have d1 : w2.cell? ⟨w.heap.size + 3, 1, none⟩ = some (.int .u8 0) := row_cell S1.out.st.res2 1
    have d2 : w2.cell? ⟨w.heap.size + 3, 2, none⟩ = some (.int .u8 0) := row_cell S1.out.st.res2 2
    have d3 : w2.cell? ⟨w.heap.size + 3, 3, none⟩ = some (.int .u8 0) := row_cell S1.out.st.res2 3
    have n0 : w2.cell? ⟨w.heap.size + 4, 0, none⟩ = some (.int .i64 0) := row_cell S1.out.no 0
    have n1 : w2.cell? ⟨w.heap.size + 4, 1, none⟩ = some (.slice none 0 0) := row_cell S1.out.no 1
    have f0 := row_frozen S1.out.st.res1 0
    have f1 := row_frozen S1.out.st.res1 1
    have k0 := row_frozen S1.out.st.res2 0
    have k1 := row_frozen S1.out.st.res2 1
    have k2 := row_frozen S1.out.st.res2 2
    have k3 := row_frozen S1.out.st.res2 3
    have R1 := Lib.hid (sto4_other (g := w.heap.size + 3) (o := 0) (r := z4) (sto2_row S1.out.st.res1 0 (.slice none 0 0)) (by omega))
    have R2 := Lib.hid (sto4_row (sto2_other (g := w.heap.size + 2) (p := 0) (v := .slice none 0 0) S1.out.st.res2 (by omega)) z4)
    have B2 := Lib.hid (sto4_below (o := 0) (r := z4) (sto2_below (p := 0) (v := .slice none 0 0) S1.out.st.bel (show w.heap.size ≤ w.heap.size + 2 by omega)) (show w.heap.size ≤ w.heap.size + 3 by omega))
    have b0 : w2.cell? ⟨w.heap.size, 0, none⟩ = some (.int .i64 p) := row_cell S1.out.st.box 0
    have b1' : w2.cell? ⟨w.heap.size, 1, none⟩ = some (.slice a n cap) := row_cell S1.out.st.box 1
    clear S1
    go_wp2
    (try simp only [Exit.inBlock, Exit.then])
    exact bodyPost_ret (results_do (p := 8) (q := 9) (r := 10) rfl _ _ (w.heap.size + 2) (w.heap.size + 3) 0 (.slice none 0 0) z4 5 rfl rfl rfl R1.out R2.out) rfl (E.out _ B2.out)
  · have hq1 : IntKind.i64.wrap (Int.tdiv p 4) = p / 4 := by rw [Int.tdiv_eq_ediv_of_nonneg p0]; exact IntWalk.i64_in _ (by omega)
    have hq2 : Int.tmod (p / 4) 2 = 0 := by rw [Int.tmod_eq_emod_of_nonneg (by omega)]; exact hq
    clear hq
    have hz : ¬ rec = 0 := by omega
    have hz2 : (rec == 0) = false := by simpa using hz
    go_enter Tryz.func70, Tryz.ntmps70
    go_wp2_with fail
    generalize ((((w.alloc (.cells #[.int .i64 p, .slice a n cap] 67)).alloc (.cells #[.int .u8 x.1, .int .u8 x.2.1, .int .u8 x.2.2.1, .int .u8 x.2.2.2] 71)).alloc (.cells #[.int .i64 0, .slice none 0 0] 67)).alloc (.cells #[.int .u8 0, .int .u8 0, .int .u8 0, .int .u8 0] 71)).alloc (.cells #[.int .i64 0, .slice none 0 0] 67) = W at *
    refine GR.out.mono ?_
    rintro e w1 ⟨rfl, b1⟩
    have S1 := Lib.hid (S0.out.mono b1)
    clear b1 S0 GR
    have b0 : w1.cell? ⟨w.heap.size, 0, none⟩ = some (.int .i64 p) := row_cell S1.out.st.box 0
    have b1' : w1.cell? ⟨w.heap.size, 1, none⟩ = some (.slice a n cap) := row_cell S1.out.st.box 1
    go_upto_region 9 with fail
    have S2 : Hid (StartR w p (.slice a n cap) x (w1.alloc (.cells #[.int .i64 1, .int .i64 2, .int .i64 4] 3))) := Lib.hid (S1.out.mono ((Below.refl _ _).alloc (Nat.le_refl _) _))
    clear b0 b1' S1
    generalize w1.alloc (.cells #[.int .i64 1, .int .i64 2, .int .i64 4] 3) = w2 at *
    have S1 := S2
    clear S2
    have c0 : w2.cell? ⟨w.heap.size + 2, 0, none⟩ = some (.int .i64 0) := row_cell S1.out.st.res1 0
    have c1 : w2.cell? ⟨w.heap.size + 2, 1, none⟩ = some (.slice none 0 0) := row_cell S1.out.st.res1 1
    have d0 : w2.cell? ⟨w.heap.size + 3, 0, none⟩ = some (.int .u8 0) := row_cell S1.out.st.res2 0
    have d1 : w2.cell? ⟨w.heap.size + 3, 1, none⟩ = some (.int .u8 0) := row_cell S1.out.st.res2 1
    have d2 : w2.cell? ⟨w.heap.size + 3, 2, none⟩ = some (.int .u8 0) := row_cell S1.out.st.res2 2
    have d3 : w2.cell? ⟨w.heap.size + 3, 3, none⟩ = some (.int .u8 0) := row_cell S1.out.st.res2 3
    have n0 : w2.cell? ⟨w.heap.size + 4, 0, none⟩ = some (.int .i64 0) := row_cell S1.out.no 0
    have n1 : w2.cell? ⟨w.heap.size + 4, 1, none⟩ = some (.slice none 0 0) := row_cell S1.out.no 1
    have f0 := row_frozen S1.out.st.res1 0
    have f1 := row_frozen S1.out.st.res1 1
    have k0 := row_frozen S1.out.st.res2 0
    have k1 := row_frozen S1.out.st.res2 1
    have k2 := row_frozen S1.out.st.res2 2
    have k3 := row_frozen S1.out.st.res2 3
    have R1 := Lib.hid (sto4_other (g := w.heap.size + 3) (o := 0) (r := z4) (sto2_row S1.out.st.res1 0 (.slice none 0 0)) (by omega))
    have R2 := Lib.hid (sto4_row (sto2_other (g := w.heap.size + 2) (p := 0) (v := .slice none 0 0) S1.out.st.res2 (by omega)) z4)
    have B2 := Lib.hid (sto4_below (o := 0) (r := z4) (sto2_below (p := 0) (v := .slice none 0 0) S1.out.st.bel (show w.heap.size ≤ w.heap.size + 2 by omega)) (show w.heap.size ≤ w.heap.size + 3 by omega))
    have b0 : w2.cell? ⟨w.heap.size, 0, none⟩ = some (.int .i64 p) := row_cell S1.out.st.box 0
    have b1' : w2.cell? ⟨w.heap.size, 1, none⟩ = some (.slice a n cap) := row_cell S1.out.st.box 1
    clear S1
    go_wp2
    (try simp only [Exit.inBlock, Exit.then])
    exact bodyPost_ret (results_do (p := 8) (q := 9) (r := 10) rfl _ _ (w.heap.size + 2) (w.heap.size + 3) 0 (.slice none 0 0) z4 5 rfl rfl rfl R1.out R2.out) rfl (E.out _ B2.out)

end Go.Proofs.YtilacdjekdngkaaGreatDoor.Fl

/- The document's own Do: what is done. -/
namespace Go.Proofs.YtilacdjekdngkaaGreatDoor.Fl
open Go.RowKit
open Go.Proofs.YtilacdjekdngkaaGreatDoor.Rw (Rd Ow At)
attribute [local irreducible] Sd.wpSd wpQuiet Sf.wpSf

/-- 'append(list, other...)' of a list without room, as one operation. -/
theorem grow_op {P : Program} {α : Type} {K4 : Rw.Kind α} {w : World} {E : Nat} {o : Oper} {a : Act} {K : Act → World → Prop} {Q : Exit → Act → World → Prop} {T : TypeId} {z : Value} {bytes : Nat} (ht : P.underlying T = some (.slice E))
    (hi : (P.info? E).map (fun i => (i.zero, i.size, i.bytes)) = some (some z, K4.n, bytes)) (hz : z.cells.size = K4.n) (hby : bytes ≤ 64) (s x : Operand)
    (ho : o.op = .call { callee := .builtin .append, args := #[s, x], argTypes := #[T, T] }) (g : Addr) (hs : a.eval s = .slice (some g) 0 0)
    (b off cap : Nat) (y : List α) (hx : a.eval x = .slice (some ⟨b, off, none⟩) y.length cap) (hA : At K4 w b off y) (h0 : 0 < y.length) (hlen : y.length < 2199023255552)
    (h : ∀ v' w', Ow K4 w' w.heap.size E v' y → Below w.heap.size w w' → K (a.put o.dst v') w') : o.wp P a w K Q := by
  obtain ⟨i0, hi0, hz0, hz1, hz2⟩ := info_parts hi
  have hb : (0 + y.length) * bytes ≤ 140737488355328 := Nat.le_trans (Nat.mul_le_mul (show 0 + y.length ≤ 2199023255552 by omega) hby) (by omega)
  obtain ⟨v', w', hrun, r1, r2⟩ := run_append_arg_grows (P := P) w T o.type E i0 z K4.n bytes ht hi0 hz0 hz1 hz2 hz K4.pos g 0 0 [] (by simp) (by simp) ⟨b, off, none⟩ y.length cap (K4.flat y) (Rw.flat_length K4 y)
    (fun j u hj => by
      have e : (⟨b, off, none⟩ : Addr).add j = ⟨b, off + j, none⟩ := by simp [Addr.add]
      rw [e]
      exact hA.flat j u hj) (by omega) (by unfold maxLen; omega) hb
  rw [Nat.zero_add, List.nil_append] at r1
  have k := h v' w' r1 ((Below.refl w.heap.size w).grown r2 (Nat.le_refl _) (fun k e => by cases e))
  unfold Oper.wp
  simp [execOp, ho, resolve, invoke, builtin, hs, hx, hrun, Result.andThen]
  exact k

theorem yes4 {p op : Int} {k : Nat} {l : List R4} (h : doE p l op k = 0) : op = 0 ∧ k = 0 ∨ op = 0 ∧ 0 < k ∧ p / 1 % 2 = 1 ∨ op = 1 ∧ 0 < k ∧ p / 2 % 2 = 1 ∨ op = 2 ∧ 0 < k ∧ p / 4 % 2 = 1 := by
  obtain ⟨h1, h2, h3⟩ := doE_of h
  have h4 : (k : Int) = 0 ∧ op = 0 ∨ 0 < (k : Int) ∧ p / need op % 2 = 1 := Decidable.byContradiction fun c => by rw [doE_5 h1 h2 h3 c] at h; omega
  rcases (by omega : op = 0 ∨ op = 1 ∨ op = 2) with rfl | rfl | rfl
  · rw [show need 0 = 1 from rfl] at h4; omega
  · rw [show need 1 = 2 from rfl] at h4; omega
  · rw [show need 2 = 4 from rfl] at h4; omega

set_option maxHeartbeats 1000000 in
theorem rdo_r (w : World) (p : Int) (b off n cap : Nat) (l : List R4) (R : Rd K4 w (.slice (some ⟨b, off, none⟩) n cap) l) (hA : At K4 w b off l) (hl : okL l) (k : Nat) (x : R4) (he : doE p l 0 k = 0) (hz0 : 0 < k) (hq : p / 1 % 2 = 1) (hn : n = l.length) (hk : k < l.length) (hg : goodF p l) : Calls Tryz.prog 70 #[file p (.slice (some ⟨b, off, none⟩) n cap), .int .i64 0, .int .i64 (k : Int), rec4 x] w (DoPost w p l 0 k x) := by
  have S0 : Hid (StartR w p (.slice (some ⟨b, off, none⟩) n cap) x (((((w.alloc (.cells #[.int .i64 p, .slice (some ⟨b, off, none⟩) n cap] 67)).alloc (.cells #[.int .u8 x.1, .int .u8 x.2.1, .int .u8 x.2.2.1, .int .u8 x.2.2.2] 71)).alloc (.cells #[.int .i64 0, .slice none 0 0] 67)).alloc (.cells #[.int .u8 0, .int .u8 0, .int .u8 0, .int .u8 0] 71)).alloc (.cells #[.int .i64 0, .slice none 0 0] 67))) := Lib.hid (StartR.of w p _ x)
  have GR := Lib.hid (at_bool (show goodFB p l = true from decide_eq_true hg) (rgood_any _ p _ l (R.below S0.out.st.bel)))
  have E : Hid (∀ y u w', y = newR l 0 k x → Ow K4 w' w.heap.size 71 u (l.set k y) → Below w.heap.size w w' → DoPost w p l 0 k x (.returned (.tuple #[file p u, rec4 y, .int .i64 0])) w') := fun y u w' hy h hb => ⟨u, by rw [if_pos he, if_pos he, he, hy], by rw [if_pos he, ← hy, Int.toNat_natCast]; exact h, hb⟩
  have HLL := Lib.hid (And.intro hk (And.intro hn hg.2.2.2.1))
  have HA := Lib.hid hA
  have OK := Lib.hid hl
  have hkn : k < n := by omega
  have hkn2 : (k : Int) < n := by omega
  have p0 : 0 ≤ p := hg.1
  have p1 : p ≤ 7 := hg.2.1
  clear he R hA hl hn hk hg
  unfold file rec4 at *
  have hq1 : IntKind.i64.wrap p = p := IntWalk.i64_in _ (by omega)
  have hq2 : Int.tmod p 2 = 1 := by rw [Int.tmod_eq_emod_of_nonneg p0]; omega
  clear hq
  have hz : ¬ (k : Int) = 0 := by omega
  have hz2 : ((k : Int) == 0) = false := by simpa using hz
  have hz3 : 0 < (k : Int) := by omega
  go_enter Tryz.func70, Tryz.ntmps70
  go_wp2_with fail
  generalize ((((w.alloc (.cells #[.int .i64 p, .slice (some ⟨b, off, none⟩) n cap] 67)).alloc (.cells #[.int .u8 x.1, .int .u8 x.2.1, .int .u8 x.2.2.1, .int .u8 x.2.2.2] 71)).alloc (.cells #[.int .i64 0, .slice none 0 0] 67)).alloc (.cells #[.int .u8 0, .int .u8 0, .int .u8 0, .int .u8 0] 71)).alloc (.cells #[.int .i64 0, .slice none 0 0] 67) = W at *
  refine GR.out.mono ?_
  rintro e w1 ⟨rfl, b1⟩
  have S1 := Lib.hid (S0.out.mono b1)
  clear b1 S0 GR
  have b0 : w1.cell? ⟨w.heap.size, 0, none⟩ = some (.int .i64 p) := row_cell S1.out.st.box 0
  have b1' : w1.cell? ⟨w.heap.size, 1, none⟩ = some (.slice (some ⟨b, off, none⟩) n cap) := row_cell S1.out.st.box 1
  go_upto_region 9 with fail
  have S2 : Hid (Start w p (.slice (some ⟨b, off, none⟩) n cap) x (w1.alloc (.cells #[.int .i64 1, .int .i64 2, .int .i64 4] 3))) := Lib.hid (S1.out.st.mono ((Below.refl _ _).alloc (Nat.le_refl _) _))
  clear b0 b1' S1
  generalize w1.alloc (.cells #[.int .i64 1, .int .i64 2, .int .i64 4] 3) = w2 at *
  have b0 : w2.cell? ⟨w.heap.size, 0, none⟩ = some (.int .i64 p) := row_cell S2.out.box 0
  have b1' : w2.cell? ⟨w.heap.size, 1, none⟩ = some (.slice (some ⟨b, off, none⟩) n cap) := row_cell S2.out.box 1
  go_upto_region 11 with fail
  clear b0 b1'
  clear hq1 hq2 hz hz2 hz3
  have s0 := Sd.cell_by (show w2.cell? ⟨w.heap.size, 0, none⟩ = some (.int .i64 p) from row_cell S2.out.box 0)
  have s1 := Sd.cell_by (show w2.cell? ⟨w.heap.size, 1, none⟩ = some (.slice (some ⟨b, off, none⟩) n cap) from row_cell S2.out.box 1)
  refine Sf.start [(0, 0), (0, 1), (0, 3), (0, 4), (1, 2), (1, 5), (0, 6), (2, 7), (1, 8)] [⟨7, 13, #[.int .i64 0, .slice none 0 0], 67⟩] (by kernel_rfl) (by kernel_rfl) (by kernel_rfl) (by decide) (by decide) ?_ ?_ ?_
  · simp
  · intro f hf
    simp only [List.mem_cons, List.not_mem_nil, or_false] at hf
    subst hf
    exact ⟨_, rfl, rfl, rfl, fun ρ w => by go_simp⟩
  dsimp only [Sf.picks, List.getElem?_cons_succ, List.getElem?_cons_zero]
  have BW := Lib.hid ((Below.refl w2.heap.size w2).drew)
  repeat (refine Sf.lit (fun xs => ?_); simp only [Sf.fill, List.foldl_cons, List.foldl_nil]; quiet_step (fail); refine wpQuiet_nil ?_)
  refine Sf.call (fun xs w3 hb hc => ⟨by rfl, fun K hK => ?_⟩)
  have B3 := Lib.hid (BW.out.trans (hb.mono BW.out.size))
  clear hb hc BW
  simp only [Sf.fill, List.foldl_cons, List.foldl_nil]
  go_simp
  have bz : Below w3.heap.size w3 (w3.alloc (.cells #[] 71)) := (Below.refl _ _).alloc (Nat.le_refl _) _
  have B4 := Lib.hid (B3.out.trans (bz.mono B3.out.size))
  refine hK _ _ (Sd.Cl.of B4.out) bz.size (fun _ => bz) ?_
  clear hK K bz
  have hs3 := B3.out.size
  have h34 : w3.heap.size ≤ (w3.alloc (.cells #[] 71)).heap.size := by simp
  generalize w3.alloc (.cells #[] 71) = w4 at *
  refine Sf.call (fun xs w5 hb hc => ⟨by rfl, fun K hK => ?_⟩)
  have B5 := Lib.hid (B4.out.trans (hb.mono B4.out.size))
  have A5 := HA.out.below (S2.out.bel.trans (B5.out.mono (by have := S2.out.siz; omega)))
  have h45 := hb.size
  clear hb hc B4
  simp only [Sf.fill, List.foldl_cons, List.foldl_nil]
  refine grow_op Tryz.underlying65 infoR rfl (by omega) _ _ rfl _ rfl b off cap l (by rw [← HLL.out.2.1]; rfl) A5 (by have := HLL.out.1; omega) (by have := HLL.out.2.2; omega) ?_
  intro u w6 o6 b6
  obtain ⟨gu, cu, rfl⟩ := own_form o6 (by have := HLL.out.1; omega)
  rw [← HLL.out.2.1] at o6 ⊢
  have B6 := Lib.hid (B5.out.trans (b6.mono B5.out.size))
  have O6 := Lib.hid o6
  go_simp
  refine hK _ _ (Sd.Cl.of B6.out) b6.size (fun _ => b6) ?_
  clear hK K b6 o6 A5
  repeat (refine Sf.lit (fun xs => ?_); simp only [Sf.fill, List.foldl_cons, List.foldl_nil]; quiet_step (fail); refine wpQuiet_nil ?_)
  refine Sf.meet (fun gF w7 hb hc row n7 hH hL => ?_)
  have B7 := Lib.hid (B6.out.trans (hb.mono B6.out.size))
  have N7 := Lib.hid (O6.out.range (hH _ (List.mem_cons_self ..)))
  have O7 := Lib.hid (O6.out.keep hb)
  have R7 : Hid (w7.heap[gF]? = some (.cells #[.int .i64 0, .slice none 0 0] 67 (0, 0))) := row
  have hs5 := B5.out.size
  clear hb hc row hH hL B6 O6
  refine Sf.call (fun xs w9 hb hc => ⟨by rfl, fun K hK => ?_⟩)
  have B9 := Lib.hid (B7.out.trans (hb.mono B7.out.size))
  have O9 := Lib.hid (O7.out.keep hb)
  have R9 := (hb.block _ (lt_of_block R7.out)).trans R7.out
  have c0 : w9.cell? ⟨gF, 0, none⟩ = some (.int .i64 0) := row_cell R9 0
  have c1 : w9.cell? ⟨gF, 1, none⟩ = some (.slice none 0 0) := row_cell R9 1
  have f0 := row_frozen R9 0
  have f1 := row_frozen R9 1
  have RA := sto2_row R9 p (.slice (some ⟨gu, 0, none⟩) n cu)
  have BA := sto2_below (p := p) (v := .slice (some ⟨gu, 0, none⟩) n cu) B9.out n7
  have OA := sto2_off (u := .slice (some ⟨gu, 0, none⟩) n cu) O9.out N7.out p
  have hs1 := S2.out.siz
  have HB : Hid (Have w p (.slice (some ⟨b, off, none⟩) n cap) x gF (.slice (some ⟨gu, 0, none⟩) n cu) l (sto2 w9 gF p (.slice (some ⟨gu, 0, none⟩) n cu))) := ⟨S2.out.mono BA, RA, OA.low (by omega), by omega, N7.out⟩
  have hsz := sto2_size w9 gF p (.slice (some ⟨gu, 0, none⟩) n cu)
  clear hb hc B7 O7 R7 R9 RA OA B9 O9 N7 hs3 h34 h45 hs5 B5 B3
  simp only [Sf.fill, List.foldl_nil]
  go_simp
  refine hK _ _ (Sd.Cl.of BA) (by rw [← hsz]; exact Nat.le_refl _) (fun h => absurd rfl h) ?_
  clear hK K c0 c1 f0 f1
  show Sf.wpSf _ _ _ _ _ _ _ _ _ _ (sto2 w9 gF p (.slice (some ⟨gu, 0, none⟩) n cu))
  clear BA hsz
  generalize sto2 w9 gF p (.slice (some ⟨gu, 0, none⟩) n cu) = wA at *
  refine Sf.done (fun wB hb hc => ?_)
  have HV := Lib.hid (HB.out.mono hb)
  clear hb hc HB s0 s1 n7 hs1
  obtain ⟨y, hy⟩ : ∃ y, rat l k = y := ⟨_, rfl⟩
  have EY : Hid (∀ u w', Ow K4 w' w.heap.size 71 u (l.set k y) → Below w.heap.size w w' → DoPost w p l 0 k x (.returned (.tuple #[file p u, rec4 y, .int .i64 0])) w') := fun u w' => E.out y u w' (by rw [← hy]; unfold newR; rw [if_neg (by decide), if_neg (by decide), Int.toNat_natCast])
  rw [← set_rat l k HLL.out.1, hy] at HV
  clear E hy
  go_wp2_with fail
  generalize wB = Wz at *
  obtain ⟨⟨c0, c1, c2, c3⟩, _, _, _⟩ := own4 HV.out.own k (by rw [List.length_set]; exact HLL.out.1)
  rw [rat_set l k HLL.out.1] at c0 c1 c2 c3
  have C0 : Last w p gF (.slice (some ⟨gu, 0, none⟩) n cu) (l.set k y) Wz.drew := ⟨HV.out.row, HV.out.own⟩
  have r0 := Sc.cell_in (C := Last w p gF (.slice (some ⟨gu, 0, none⟩) n cu) (l.set k y)) (a := ⟨gF, 0, none⟩) (fun W' h => row_cell h.1 0)
  have r1 := Sc.cell_in (C := Last w p gF (.slice (some ⟨gu, 0, none⟩) n cu) (l.set k y)) (a := ⟨gF, 1, none⟩) (fun W' h => row_cell h.1 1)
  have HQ : Hid (∀ W', Last w p gF (.slice (some ⟨gu, 0, none⟩) n cu) (l.set k y) W' → (W'.cell? ⟨gu, k * 4, none⟩ = some (.int .u8 y.1) ∧ W'.cell? ⟨gu, k * 4 + 1, none⟩ = some (.int .u8 y.2.1) ∧ W'.cell? ⟨gu, k * 4 + 2, none⟩ = some (.int .u8 y.2.2.1) ∧ W'.cell? ⟨gu, k * 4 + 3, none⟩ = some (.int .u8 y.2.2.2))) := fun W' h => by
    have := (own4 h.2 k (by rw [List.length_set]; exact HLL.out.1)).1
    rw [rat_set l k HLL.out.1] at this
    exact this
  have q0 := Sc.cell_in (C := Last w p gF (.slice (some ⟨gu, 0, none⟩) n cu) (l.set k y)) (fun W' h => (HQ.out W' h).1)
  have q1 := Sc.cell_in (C := Last w p gF (.slice (some ⟨gu, 0, none⟩) n cu) (l.set k y)) (fun W' h => (HQ.out W' h).2.1)
  have q2 := Sc.cell_in (C := Last w p gF (.slice (some ⟨gu, 0, none⟩) n cu) (l.set k y)) (fun W' h => (HQ.out W' h).2.2.1)
  have q3 := Sc.cell_in (C := Last w p gF (.slice (some ⟨gu, 0, none⟩) n cu) (l.set k y)) (fun W' h => (HQ.out W' h).2.2.2)
  have ne : Nonempty (Sc.In (Last w p gF (.slice (some ⟨gu, 0, none⟩) n cu) (l.set k y))) := ⟨⟨_, C0⟩⟩
  clear c0 c1 c2 c3 HQ
  refine Sc.start (Last w p gF (.slice (some ⟨gu, 0, none⟩) n cu) (l.set k y)) [(false, 0), (false, 1), (false, 2), (false, 3), (false, 4), (false, 5), (true, 6), (true, 7), (false, 8)] (by kernel_rfl) (by kernel_rfl) (by kernel_rfl) C0 ?_
  dsimp only [Sd.picks, List.getElem?_cons_succ, List.getElem?_cons_zero]
  repeat (refine Sd.lit ?_; quiet_step (fail); refine wpQuiet_nil ?_)
  have HD : Hid (Have w p (.slice (some ⟨b, off, none⟩) n cap) x gF (.slice (some ⟨gu, 0, none⟩) n cu) (l.set k y) Wz.drew) := HV.out.mono ((Below.refl _ _).drew)
  clear HV r0 r1 q0 q1 q2 q3 C0
  generalize Wz.drew = Wy at *
  refine Sd.call (by rfl) (fun K hK => ?_)
  have c0 : Wy.cell? ⟨w.heap.size + 2, 0, none⟩ = some (.int .i64 0) := row_cell HD.out.st.res1 0
  have c1 : Wy.cell? ⟨w.heap.size + 2, 1, none⟩ = some (.slice none 0 0) := row_cell HD.out.st.res1 1
  have f0 := row_frozen HD.out.st.res1 0
  have f1 := row_frozen HD.out.st.res1 1
  have hge := (own4 HD.out.own k (by rw [List.length_set]; exact HLL.out.1)).2.2.1
  have hF := HD.out.ge
  have n1 : (Value.slice (some ⟨gu, 0, none⟩) n cu).ownBlock ≠ some (w.heap.size + 2) := fun e => by simp [Value.ownBlock] at e; omega
  have n2 : (Value.slice (some ⟨gu, 0, none⟩) n cu).ownBlock ≠ some (w.heap.size + 3) := fun e => by simp [Value.ownBlock] at e; omega
  have L1 : Last w p gF (.slice (some ⟨gu, 0, none⟩) n cu) (l.set k y) (sto2 Wy (w.heap.size + 2) p (.slice (some ⟨gu, 0, none⟩) n cu)) := ⟨sto2_other HD.out.row (by omega), sto2_off HD.out.own n1 p⟩
  have R1 := Lib.hid (sto2_row HD.out.st.res1 p (.slice (some ⟨gu, 0, none⟩) n cu))
  have R2 := sto2_other (g := w.heap.size + 2) (p := p) (v := .slice (some ⟨gu, 0, none⟩) n cu) HD.out.st.res2 (by omega)
  have B1 := Lib.hid (sto2_below (p := p) (v := .slice (some ⟨gu, 0, none⟩) n cu) HD.out.st.bel (show w.heap.size ≤ w.heap.size + 2 by omega))
  clear HD
  go_simp
  refine hK _ _ (Sc.Cl.of L1) ?_
  clear hK K c0 c1 f0 f1
  show Sd.wpSd _ _ _ _ _ _ (sto2 Wy (w.heap.size + 2) p (.slice (some ⟨gu, 0, none⟩) n cu))
  generalize sto2 Wy (w.heap.size + 2) p (.slice (some ⟨gu, 0, none⟩) n cu) = Wx at *
  refine Sd.call (by rfl) (fun K hK => ?_)
  have d0 : Wx.cell? ⟨w.heap.size + 3, 0, none⟩ = some (.int .u8 0) := row_cell R2 0
  have d1 : Wx.cell? ⟨w.heap.size + 3, 1, none⟩ = some (.int .u8 0) := row_cell R2 1
  have d2 : Wx.cell? ⟨w.heap.size + 3, 2, none⟩ = some (.int .u8 0) := row_cell R2 2
  have d3 : Wx.cell? ⟨w.heap.size + 3, 3, none⟩ = some (.int .u8 0) := row_cell R2 3
  have k0 := row_frozen R2 0
  have k1 := row_frozen R2 1
  have k2 := row_frozen R2 2
  have k3 := row_frozen R2 3
  have L2 : Last w p gF (.slice (some ⟨gu, 0, none⟩) n cu) (l.set k y) (sto4 Wx (w.heap.size + 3) 0 y) := ⟨sto4_other L1.1 (by omega), sto4_off L1.2 n2 y⟩
  have R3 := Lib.hid (sto4_row R2 y)
  have R4 := Lib.hid (sto4_other (g := w.heap.size + 3) (o := 0) (r := y) R1.out (by omega))
  have B2 := Lib.hid (sto4_below (o := 0) (r := y) B1.out (show w.heap.size ≤ w.heap.size + 3 by omega))
  clear R2 R1 B1 L1
  go_simp
  refine hK _ _ (Sc.Cl.of L2) ?_
  clear hK K d0 d1 d2 d3 k0 k1 k2 k3
  show Sd.wpSd _ _ _ _ _ _ (sto4 Wx (w.heap.size + 3) 0 y)
  have O2 := Lib.hid L2.2
  clear L2
  generalize sto4 Wx (w.heap.size + 3) 0 y = Ww at *
  repeat (refine Sd.lit ?_; quiet_step (fail); refine wpQuiet_nil ?_)
  refine Sd.done ?_
  go_wp2
  (try simp only [Exit.inBlock, Exit.then])
  exact bodyPost_ret (results_do (p := 8) (q := 9) (r := 10) rfl _ _ (w.heap.size + 2) (w.heap.size + 3) p _ y 0 rfl rfl rfl R4.out R3.out) rfl (EY.out _ _ (O2.out.low (by omega)) B2.out)

set_option maxHeartbeats 1000000 in
theorem rdo_h (w : World) (p : Int) (b off n cap : Nat) (l : List R4) (R : Rd K4 w (.slice (some ⟨b, off, none⟩) n cap) l) (hA : At K4 w b off l) (hl : okL l) (k : Nat) (x : R4) (he : doE p l 0 k = 0) (hz0 : k = 0) (hn : n = l.length) (hk : k < l.length) (hg : goodF p l) : Calls Tryz.prog 70 #[file p (.slice (some ⟨b, off, none⟩) n cap), .int .i64 0, .int .i64 (k : Int), rec4 x] w (DoPost w p l 0 k x) := by
  have S0 : Hid (StartR w p (.slice (some ⟨b, off, none⟩) n cap) x (((((w.alloc (.cells #[.int .i64 p, .slice (some ⟨b, off, none⟩) n cap] 67)).alloc (.cells #[.int .u8 x.1, .int .u8 x.2.1, .int .u8 x.2.2.1, .int .u8 x.2.2.2] 71)).alloc (.cells #[.int .i64 0, .slice none 0 0] 67)).alloc (.cells #[.int .u8 0, .int .u8 0, .int .u8 0, .int .u8 0] 71)).alloc (.cells #[.int .i64 0, .slice none 0 0] 67))) := Lib.hid (StartR.of w p _ x)
  have GR := Lib.hid (at_bool (show goodFB p l = true from decide_eq_true hg) (rgood_any _ p _ l (R.below S0.out.st.bel)))
  have E : Hid (∀ y u w', y = newR l 0 k x → Ow K4 w' w.heap.size 71 u (l.set k y) → Below w.heap.size w w' → DoPost w p l 0 k x (.returned (.tuple #[file p u, rec4 y, .int .i64 0])) w') := fun y u w' hy h hb => ⟨u, by rw [if_pos he, if_pos he, he, hy], by rw [if_pos he, ← hy, Int.toNat_natCast]; exact h, hb⟩
  have HLL := Lib.hid (And.intro hk (And.intro hn hg.2.2.2.1))
  have HA := Lib.hid hA
  have OK := Lib.hid hl
  have hkn : k < n := by omega
  have hkn2 : (k : Int) < n := by omega
  have p0 : 0 ≤ p := hg.1
  have p1 : p ≤ 7 := hg.2.1
  subst hz0
  clear he R hA hl hn hk hg
  unfold file rec4 at *
  go_enter Tryz.func70, Tryz.ntmps70
  go_wp2_with fail
  generalize ((((w.alloc (.cells #[.int .i64 p, .slice (some ⟨b, off, none⟩) n cap] 67)).alloc (.cells #[.int .u8 x.1, .int .u8 x.2.1, .int .u8 x.2.2.1, .int .u8 x.2.2.2] 71)).alloc (.cells #[.int .i64 0, .slice none 0 0] 67)).alloc (.cells #[.int .u8 0, .int .u8 0, .int .u8 0, .int .u8 0] 71)).alloc (.cells #[.int .i64 0, .slice none 0 0] 67) = W at *
  refine GR.out.mono ?_
  rintro e w1 ⟨rfl, b1⟩
  have S1 := Lib.hid (S0.out.mono b1)
  clear b1 S0 GR
  have b0 : w1.cell? ⟨w.heap.size, 0, none⟩ = some (.int .i64 p) := row_cell S1.out.st.box 0
  have b1' : w1.cell? ⟨w.heap.size, 1, none⟩ = some (.slice (some ⟨b, off, none⟩) n cap) := row_cell S1.out.st.box 1
  go_upto_region 9 with fail
  have S2 : Hid (Start w p (.slice (some ⟨b, off, none⟩) n cap) x (w1.alloc (.cells #[.int .i64 1, .int .i64 2, .int .i64 4] 3))) := Lib.hid (S1.out.st.mono ((Below.refl _ _).alloc (Nat.le_refl _) _))
  clear b0 b1' S1
  generalize w1.alloc (.cells #[.int .i64 1, .int .i64 2, .int .i64 4] 3) = w2 at *
  have b0 : w2.cell? ⟨w.heap.size, 0, none⟩ = some (.int .i64 p) := row_cell S2.out.box 0
  have b1' : w2.cell? ⟨w.heap.size, 1, none⟩ = some (.slice (some ⟨b, off, none⟩) n cap) := row_cell S2.out.box 1
  go_upto_region 11 with fail
  clear b0 b1'
  have s0 := Sd.cell_by (show w2.cell? ⟨w.heap.size, 0, none⟩ = some (.int .i64 p) from row_cell S2.out.box 0)
  have s1 := Sd.cell_by (show w2.cell? ⟨w.heap.size, 1, none⟩ = some (.slice (some ⟨b, off, none⟩) n cap) from row_cell S2.out.box 1)
  refine Sf.start [(0, 0), (0, 1), (0, 3), (0, 4), (1, 2), (1, 5), (0, 6), (2, 7), (1, 8)] [⟨7, 13, #[.int .i64 0, .slice none 0 0], 67⟩] (by kernel_rfl) (by kernel_rfl) (by kernel_rfl) (by decide) (by decide) ?_ ?_ ?_
  · simp
  · intro f hf
    simp only [List.mem_cons, List.not_mem_nil, or_false] at hf
    subst hf
    exact ⟨_, rfl, rfl, rfl, fun ρ w => by go_simp⟩
  dsimp only [Sf.picks, List.getElem?_cons_succ, List.getElem?_cons_zero]
  have BW := Lib.hid ((Below.refl w2.heap.size w2).drew)
  repeat (refine Sf.lit (fun xs => ?_); simp only [Sf.fill, List.foldl_cons, List.foldl_nil]; quiet_step (fail); refine wpQuiet_nil ?_)
  refine Sf.call (fun xs w3 hb hc => ⟨by rfl, fun K hK => ?_⟩)
  have B3 := Lib.hid (BW.out.trans (hb.mono BW.out.size))
  clear hb hc BW
  simp only [Sf.fill, List.foldl_cons, List.foldl_nil]
  go_simp
  have bz : Below w3.heap.size w3 (w3.alloc (.cells #[] 71)) := (Below.refl _ _).alloc (Nat.le_refl _) _
  have B4 := Lib.hid (B3.out.trans (bz.mono B3.out.size))
  refine hK _ _ (Sd.Cl.of B4.out) bz.size (fun _ => bz) ?_
  clear hK K bz
  have hs3 := B3.out.size
  have h34 : w3.heap.size ≤ (w3.alloc (.cells #[] 71)).heap.size := by simp
  generalize w3.alloc (.cells #[] 71) = w4 at *
  refine Sf.call (fun xs w5 hb hc => ⟨by rfl, fun K hK => ?_⟩)
  have B5 := Lib.hid (B4.out.trans (hb.mono B4.out.size))
  have A5 := HA.out.below (S2.out.bel.trans (B5.out.mono (by have := S2.out.siz; omega)))
  have h45 := hb.size
  clear hb hc B4
  simp only [Sf.fill, List.foldl_cons, List.foldl_nil]
  refine grow_op Tryz.underlying65 infoR rfl (by omega) _ _ rfl _ rfl b off cap l (by rw [← HLL.out.2.1]; rfl) A5 (by have := HLL.out.1; omega) (by have := HLL.out.2.2; omega) ?_
  intro u w6 o6 b6
  obtain ⟨gu, cu, rfl⟩ := own_form o6 (by have := HLL.out.1; omega)
  rw [← HLL.out.2.1] at o6 ⊢
  have B6 := Lib.hid (B5.out.trans (b6.mono B5.out.size))
  have O6 := Lib.hid o6
  go_simp
  refine hK _ _ (Sd.Cl.of B6.out) b6.size (fun _ => b6) ?_
  clear hK K b6 o6 A5
  repeat (refine Sf.lit (fun xs => ?_); simp only [Sf.fill, List.foldl_cons, List.foldl_nil]; quiet_step (fail); refine wpQuiet_nil ?_)
  refine Sf.meet (fun gF w7 hb hc row n7 hH hL => ?_)
  have B7 := Lib.hid (B6.out.trans (hb.mono B6.out.size))
  have N7 := Lib.hid (O6.out.range (hH _ (List.mem_cons_self ..)))
  have O7 := Lib.hid (O6.out.keep hb)
  have R7 : Hid (w7.heap[gF]? = some (.cells #[.int .i64 0, .slice none 0 0] 67 (0, 0))) := row
  have hs5 := B5.out.size
  clear hb hc row hH hL B6 O6
  refine Sf.call (fun xs w9 hb hc => ⟨by rfl, fun K hK => ?_⟩)
  have B9 := Lib.hid (B7.out.trans (hb.mono B7.out.size))
  have O9 := Lib.hid (O7.out.keep hb)
  have R9 := (hb.block _ (lt_of_block R7.out)).trans R7.out
  have c0 : w9.cell? ⟨gF, 0, none⟩ = some (.int .i64 0) := row_cell R9 0
  have c1 : w9.cell? ⟨gF, 1, none⟩ = some (.slice none 0 0) := row_cell R9 1
  have f0 := row_frozen R9 0
  have f1 := row_frozen R9 1
  have RA := sto2_row R9 p (.slice (some ⟨gu, 0, none⟩) n cu)
  have BA := sto2_below (p := p) (v := .slice (some ⟨gu, 0, none⟩) n cu) B9.out n7
  have OA := sto2_off (u := .slice (some ⟨gu, 0, none⟩) n cu) O9.out N7.out p
  have hs1 := S2.out.siz
  have HB : Hid (Have w p (.slice (some ⟨b, off, none⟩) n cap) x gF (.slice (some ⟨gu, 0, none⟩) n cu) l (sto2 w9 gF p (.slice (some ⟨gu, 0, none⟩) n cu))) := ⟨S2.out.mono BA, RA, OA.low (by omega), by omega, N7.out⟩
  have hsz := sto2_size w9 gF p (.slice (some ⟨gu, 0, none⟩) n cu)
  clear hb hc B7 O7 R7 R9 RA OA B9 O9 N7 hs3 h34 h45 hs5 B5 B3
  simp only [Sf.fill, List.foldl_nil]
  go_simp
  refine hK _ _ (Sd.Cl.of BA) (by rw [← hsz]; exact Nat.le_refl _) (fun h => absurd rfl h) ?_
  clear hK K c0 c1 f0 f1
  show Sf.wpSf _ _ _ _ _ _ _ _ _ _ (sto2 w9 gF p (.slice (some ⟨gu, 0, none⟩) n cu))
  clear BA hsz
  generalize sto2 w9 gF p (.slice (some ⟨gu, 0, none⟩) n cu) = wA at *
  refine Sf.done (fun wB hb hc => ?_)
  have HV := Lib.hid (HB.out.mono hb)
  clear hb hc HB s0 s1 n7 hs1
  obtain ⟨y, hy⟩ : ∃ y, rat l 0 = y := ⟨_, rfl⟩
  have EY : Hid (∀ u w', Ow K4 w' w.heap.size 71 u (l.set 0 y) → Below w.heap.size w w' → DoPost w p l 0 0 x (.returned (.tuple #[file p u, rec4 y, .int .i64 0])) w') := fun u w' => E.out y u w' (by rw [← hy]; unfold newR; rw [if_neg (by decide), if_neg (by decide), Int.toNat_natCast])
  rw [← set_rat l 0 HLL.out.1, hy] at HV
  clear E hy
  go_wp2_with fail
  generalize wB = Wz at *
  obtain ⟨⟨c0, c1, c2, c3⟩, _, _, _⟩ := own4 HV.out.own 0 (by rw [List.length_set]; exact HLL.out.1)
  rw [rat_set l 0 HLL.out.1] at c0 c1 c2 c3
  have C0 : Last w p gF (.slice (some ⟨gu, 0, none⟩) n cu) (l.set 0 y) Wz.drew := ⟨HV.out.row, HV.out.own⟩
  have r0 := Sc.cell_in (C := Last w p gF (.slice (some ⟨gu, 0, none⟩) n cu) (l.set 0 y)) (a := ⟨gF, 0, none⟩) (fun W' h => row_cell h.1 0)
  have r1 := Sc.cell_in (C := Last w p gF (.slice (some ⟨gu, 0, none⟩) n cu) (l.set 0 y)) (a := ⟨gF, 1, none⟩) (fun W' h => row_cell h.1 1)
  have HQ : Hid (∀ W', Last w p gF (.slice (some ⟨gu, 0, none⟩) n cu) (l.set 0 y) W' → (W'.cell? ⟨gu, 0, none⟩ = some (.int .u8 y.1) ∧ W'.cell? ⟨gu, 1, none⟩ = some (.int .u8 y.2.1) ∧ W'.cell? ⟨gu, 2, none⟩ = some (.int .u8 y.2.2.1) ∧ W'.cell? ⟨gu, 3, none⟩ = some (.int .u8 y.2.2.2))) := fun W' h => by
    have := (own4 h.2 0 (by rw [List.length_set]; exact HLL.out.1)).1
    rw [rat_set l 0 HLL.out.1] at this
    exact this
  have q0 := Sc.cell_in (C := Last w p gF (.slice (some ⟨gu, 0, none⟩) n cu) (l.set 0 y)) (fun W' h => (HQ.out W' h).1)
  have q1 := Sc.cell_in (C := Last w p gF (.slice (some ⟨gu, 0, none⟩) n cu) (l.set 0 y)) (fun W' h => (HQ.out W' h).2.1)
  have q2 := Sc.cell_in (C := Last w p gF (.slice (some ⟨gu, 0, none⟩) n cu) (l.set 0 y)) (fun W' h => (HQ.out W' h).2.2.1)
  have q3 := Sc.cell_in (C := Last w p gF (.slice (some ⟨gu, 0, none⟩) n cu) (l.set 0 y)) (fun W' h => (HQ.out W' h).2.2.2)
  have ne : Nonempty (Sc.In (Last w p gF (.slice (some ⟨gu, 0, none⟩) n cu) (l.set 0 y))) := ⟨⟨_, C0⟩⟩
  clear c0 c1 c2 c3 HQ
  refine Sc.start (Last w p gF (.slice (some ⟨gu, 0, none⟩) n cu) (l.set 0 y)) [(false, 0), (false, 1), (false, 2), (false, 3), (false, 4), (false, 5), (true, 6), (true, 7), (false, 8)] (by kernel_rfl) (by kernel_rfl) (by kernel_rfl) C0 ?_
  dsimp only [Sd.picks, List.getElem?_cons_succ, List.getElem?_cons_zero]
  repeat (refine Sd.lit ?_; quiet_step (fail); refine wpQuiet_nil ?_)
  have HD : Hid (Have w p (.slice (some ⟨b, off, none⟩) n cap) x gF (.slice (some ⟨gu, 0, none⟩) n cu) (l.set 0 y) Wz.drew) := HV.out.mono ((Below.refl _ _).drew)
  clear HV r0 r1 q0 q1 q2 q3 C0
  generalize Wz.drew = Wy at *
  refine Sd.call (by rfl) (fun K hK => ?_)
  have c0 : Wy.cell? ⟨w.heap.size + 2, 0, none⟩ = some (.int .i64 0) := row_cell HD.out.st.res1 0
  have c1 : Wy.cell? ⟨w.heap.size + 2, 1, none⟩ = some (.slice none 0 0) := row_cell HD.out.st.res1 1
  have f0 := row_frozen HD.out.st.res1 0
  have f1 := row_frozen HD.out.st.res1 1
  have hge := (own4 HD.out.own 0 (by rw [List.length_set]; exact HLL.out.1)).2.2.1
  have hF := HD.out.ge
  have n1 : (Value.slice (some ⟨gu, 0, none⟩) n cu).ownBlock ≠ some (w.heap.size + 2) := fun e => by simp [Value.ownBlock] at e; omega
  have n2 : (Value.slice (some ⟨gu, 0, none⟩) n cu).ownBlock ≠ some (w.heap.size + 3) := fun e => by simp [Value.ownBlock] at e; omega
  have L1 : Last w p gF (.slice (some ⟨gu, 0, none⟩) n cu) (l.set 0 y) (sto2 Wy (w.heap.size + 2) p (.slice (some ⟨gu, 0, none⟩) n cu)) := ⟨sto2_other HD.out.row (by omega), sto2_off HD.out.own n1 p⟩
  have R1 := Lib.hid (sto2_row HD.out.st.res1 p (.slice (some ⟨gu, 0, none⟩) n cu))
  have R2 := sto2_other (g := w.heap.size + 2) (p := p) (v := .slice (some ⟨gu, 0, none⟩) n cu) HD.out.st.res2 (by omega)
  have B1 := Lib.hid (sto2_below (p := p) (v := .slice (some ⟨gu, 0, none⟩) n cu) HD.out.st.bel (show w.heap.size ≤ w.heap.size + 2 by omega))
  clear HD
  go_simp
  refine hK _ _ (Sc.Cl.of L1) ?_
  clear hK K c0 c1 f0 f1
  show Sd.wpSd _ _ _ _ _ _ (sto2 Wy (w.heap.size + 2) p (.slice (some ⟨gu, 0, none⟩) n cu))
  generalize sto2 Wy (w.heap.size + 2) p (.slice (some ⟨gu, 0, none⟩) n cu) = Wx at *
  refine Sd.call (by rfl) (fun K hK => ?_)
  have d0 : Wx.cell? ⟨w.heap.size + 3, 0, none⟩ = some (.int .u8 0) := row_cell R2 0
  have d1 : Wx.cell? ⟨w.heap.size + 3, 1, none⟩ = some (.int .u8 0) := row_cell R2 1
  have d2 : Wx.cell? ⟨w.heap.size + 3, 2, none⟩ = some (.int .u8 0) := row_cell R2 2
  have d3 : Wx.cell? ⟨w.heap.size + 3, 3, none⟩ = some (.int .u8 0) := row_cell R2 3
  have k0 := row_frozen R2 0
  have k1 := row_frozen R2 1
  have k2 := row_frozen R2 2
  have k3 := row_frozen R2 3
  have L2 : Last w p gF (.slice (some ⟨gu, 0, none⟩) n cu) (l.set 0 y) (sto4 Wx (w.heap.size + 3) 0 y) := ⟨sto4_other L1.1 (by omega), sto4_off L1.2 n2 y⟩
  have R3 := Lib.hid (sto4_row R2 y)
  have R4 := Lib.hid (sto4_other (g := w.heap.size + 3) (o := 0) (r := y) R1.out (by omega))
  have B2 := Lib.hid (sto4_below (o := 0) (r := y) B1.out (show w.heap.size ≤ w.heap.size + 3 by omega))
  clear R2 R1 B1 L1
  go_simp
  refine hK _ _ (Sc.Cl.of L2) ?_
  clear hK K d0 d1 d2 d3 k0 k1 k2 k3
  show Sd.wpSd _ _ _ _ _ _ (sto4 Wx (w.heap.size + 3) 0 y)
  have O2 := Lib.hid L2.2
  clear L2
  generalize sto4 Wx (w.heap.size + 3) 0 y = Ww at *
  repeat (refine Sd.lit ?_; quiet_step (fail); refine wpQuiet_nil ?_)
  refine Sd.done ?_
  go_wp2
  (try simp only [Exit.inBlock, Exit.then])
  exact bodyPost_ret (results_do (p := 8) (q := 9) (r := 10) rfl _ _ (w.heap.size + 2) (w.heap.size + 3) p _ y 0 rfl rfl rfl R4.out R3.out) rfl (EY.out _ _ (O2.out.low (by omega)) B2.out)

set_option maxHeartbeats 1000000 in
theorem rdo_w (w : World) (p : Int) (b off n cap : Nat) (l : List R4) (R : Rd K4 w (.slice (some ⟨b, off, none⟩) n cap) l) (hA : At K4 w b off l) (hl : okL l) (k : Nat) (x : R4) (he : doE p l 1 k = 0) (hz0 : 0 < k) (hq : p / 2 % 2 = 1) (hn : n = l.length) (hk : k < l.length) (hg : goodF p l) : Calls Tryz.prog 70 #[file p (.slice (some ⟨b, off, none⟩) n cap), .int .i64 1, .int .i64 (k : Int), rec4 x] w (DoPost w p l 1 k x) := by
  have S0 : Hid (StartR w p (.slice (some ⟨b, off, none⟩) n cap) x (((((w.alloc (.cells #[.int .i64 p, .slice (some ⟨b, off, none⟩) n cap] 67)).alloc (.cells #[.int .u8 x.1, .int .u8 x.2.1, .int .u8 x.2.2.1, .int .u8 x.2.2.2] 71)).alloc (.cells #[.int .i64 0, .slice none 0 0] 67)).alloc (.cells #[.int .u8 0, .int .u8 0, .int .u8 0, .int .u8 0] 71)).alloc (.cells #[.int .i64 0, .slice none 0 0] 67))) := Lib.hid (StartR.of w p _ x)
  have GR := Lib.hid (at_bool (show goodFB p l = true from decide_eq_true hg) (rgood_any _ p _ l (R.below S0.out.st.bel)))
  have E : Hid (∀ y u w', y = newR l 1 k x → Ow K4 w' w.heap.size 71 u (l.set k y) → Below w.heap.size w w' → DoPost w p l 1 k x (.returned (.tuple #[file p u, rec4 y, .int .i64 0])) w') := fun y u w' hy h hb => ⟨u, by rw [if_pos he, if_pos he, he, hy], by rw [if_pos he, ← hy, Int.toNat_natCast]; exact h, hb⟩
  have HLL := Lib.hid (And.intro hk (And.intro hn hg.2.2.2.1))
  have HA := Lib.hid hA
  have OK := Lib.hid hl
  have hkn : k < n := by omega
  have hkn2 : (k : Int) < n := by omega
  have p0 : 0 ≤ p := hg.1
  have p1 : p ≤ 7 := hg.2.1
  clear he R hA hl hn hk hg
  unfold file rec4 at *
  have hq1 : IntKind.i64.wrap (Int.tdiv p 2) = p / 2 := by rw [Int.tdiv_eq_ediv_of_nonneg p0]; exact IntWalk.i64_in _ (by omega)
  have hq2 : Int.tmod (p / 2) 2 = 1 := by rw [Int.tmod_eq_emod_of_nonneg (by omega)]; exact hq
  clear hq
  have hz : ¬ (k : Int) = 0 := by omega
  have hz2 : ((k : Int) == 0) = false := by simpa using hz
  have hz3 : 0 < (k : Int) := by omega
  go_enter Tryz.func70, Tryz.ntmps70
  go_wp2_with fail
  generalize ((((w.alloc (.cells #[.int .i64 p, .slice (some ⟨b, off, none⟩) n cap] 67)).alloc (.cells #[.int .u8 x.1, .int .u8 x.2.1, .int .u8 x.2.2.1, .int .u8 x.2.2.2] 71)).alloc (.cells #[.int .i64 0, .slice none 0 0] 67)).alloc (.cells #[.int .u8 0, .int .u8 0, .int .u8 0, .int .u8 0] 71)).alloc (.cells #[.int .i64 0, .slice none 0 0] 67) = W at *
  refine GR.out.mono ?_
  rintro e w1 ⟨rfl, b1⟩
  have S1 := Lib.hid (S0.out.mono b1)
  clear b1 S0 GR
  have b0 : w1.cell? ⟨w.heap.size, 0, none⟩ = some (.int .i64 p) := row_cell S1.out.st.box 0
  have b1' : w1.cell? ⟨w.heap.size, 1, none⟩ = some (.slice (some ⟨b, off, none⟩) n cap) := row_cell S1.out.st.box 1
  go_upto_region 9 with fail
  have S2 : Hid (Start w p (.slice (some ⟨b, off, none⟩) n cap) x (w1.alloc (.cells #[.int .i64 1, .int .i64 2, .int .i64 4] 3))) := Lib.hid (S1.out.st.mono ((Below.refl _ _).alloc (Nat.le_refl _) _))
  clear b0 b1' S1
  generalize w1.alloc (.cells #[.int .i64 1, .int .i64 2, .int .i64 4] 3) = w2 at *
  have b0 : w2.cell? ⟨w.heap.size, 0, none⟩ = some (.int .i64 p) := row_cell S2.out.box 0
  have b1' : w2.cell? ⟨w.heap.size, 1, none⟩ = some (.slice (some ⟨b, off, none⟩) n cap) := row_cell S2.out.box 1
  go_upto_region 11 with fail
  clear b0 b1'
  clear hq1 hq2 hz hz2 hz3
  have s0 := Sd.cell_by (show w2.cell? ⟨w.heap.size, 0, none⟩ = some (.int .i64 p) from row_cell S2.out.box 0)
  have s1 := Sd.cell_by (show w2.cell? ⟨w.heap.size, 1, none⟩ = some (.slice (some ⟨b, off, none⟩) n cap) from row_cell S2.out.box 1)
  refine Sf.start [(0, 0), (0, 1), (0, 3), (0, 4), (1, 2), (1, 5), (0, 6), (2, 7), (1, 8)] [⟨7, 13, #[.int .i64 0, .slice none 0 0], 67⟩] (by kernel_rfl) (by kernel_rfl) (by kernel_rfl) (by decide) (by decide) ?_ ?_ ?_
  · simp
  · intro f hf
    simp only [List.mem_cons, List.not_mem_nil, or_false] at hf
    subst hf
    exact ⟨_, rfl, rfl, rfl, fun ρ w => by go_simp⟩
  dsimp only [Sf.picks, List.getElem?_cons_succ, List.getElem?_cons_zero]
  have BW := Lib.hid ((Below.refl w2.heap.size w2).drew)
  repeat (refine Sf.lit (fun xs => ?_); simp only [Sf.fill, List.foldl_cons, List.foldl_nil]; quiet_step (fail); refine wpQuiet_nil ?_)
  refine Sf.call (fun xs w3 hb hc => ⟨by rfl, fun K hK => ?_⟩)
  have B3 := Lib.hid (BW.out.trans (hb.mono BW.out.size))
  clear hb hc BW
  simp only [Sf.fill, List.foldl_cons, List.foldl_nil]
  go_simp
  have bz : Below w3.heap.size w3 (w3.alloc (.cells #[] 71)) := (Below.refl _ _).alloc (Nat.le_refl _) _
  have B4 := Lib.hid (B3.out.trans (bz.mono B3.out.size))
  refine hK _ _ (Sd.Cl.of B4.out) bz.size (fun _ => bz) ?_
  clear hK K bz
  have hs3 := B3.out.size
  have h34 : w3.heap.size ≤ (w3.alloc (.cells #[] 71)).heap.size := by simp
  generalize w3.alloc (.cells #[] 71) = w4 at *
  refine Sf.call (fun xs w5 hb hc => ⟨by rfl, fun K hK => ?_⟩)
  have B5 := Lib.hid (B4.out.trans (hb.mono B4.out.size))
  have A5 := HA.out.below (S2.out.bel.trans (B5.out.mono (by have := S2.out.siz; omega)))
  have h45 := hb.size
  clear hb hc B4
  simp only [Sf.fill, List.foldl_cons, List.foldl_nil]
  refine grow_op Tryz.underlying65 infoR rfl (by omega) _ _ rfl _ rfl b off cap l (by rw [← HLL.out.2.1]; rfl) A5 (by have := HLL.out.1; omega) (by have := HLL.out.2.2; omega) ?_
  intro u w6 o6 b6
  obtain ⟨gu, cu, rfl⟩ := own_form o6 (by have := HLL.out.1; omega)
  rw [← HLL.out.2.1] at o6 ⊢
  have B6 := Lib.hid (B5.out.trans (b6.mono B5.out.size))
  have O6 := Lib.hid o6
  go_simp
  refine hK _ _ (Sd.Cl.of B6.out) b6.size (fun _ => b6) ?_
  clear hK K b6 o6 A5
  repeat (refine Sf.lit (fun xs => ?_); simp only [Sf.fill, List.foldl_cons, List.foldl_nil]; quiet_step (fail); refine wpQuiet_nil ?_)
  refine Sf.meet (fun gF w7 hb hc row n7 hH hL => ?_)
  have B7 := Lib.hid (B6.out.trans (hb.mono B6.out.size))
  have N7 := Lib.hid (O6.out.range (hH _ (List.mem_cons_self ..)))
  have O7 := Lib.hid (O6.out.keep hb)
  have R7 : Hid (w7.heap[gF]? = some (.cells #[.int .i64 0, .slice none 0 0] 67 (0, 0))) := row
  have hs5 := B5.out.size
  clear hb hc row hH hL B6 O6
  refine Sf.call (fun xs w9 hb hc => ⟨by rfl, fun K hK => ?_⟩)
  have B9 := Lib.hid (B7.out.trans (hb.mono B7.out.size))
  have O9 := Lib.hid (O7.out.keep hb)
  have R9 := (hb.block _ (lt_of_block R7.out)).trans R7.out
  have c0 : w9.cell? ⟨gF, 0, none⟩ = some (.int .i64 0) := row_cell R9 0
  have c1 : w9.cell? ⟨gF, 1, none⟩ = some (.slice none 0 0) := row_cell R9 1
  have f0 := row_frozen R9 0
  have f1 := row_frozen R9 1
  have RA := sto2_row R9 p (.slice (some ⟨gu, 0, none⟩) n cu)
  have BA := sto2_below (p := p) (v := .slice (some ⟨gu, 0, none⟩) n cu) B9.out n7
  have OA := sto2_off (u := .slice (some ⟨gu, 0, none⟩) n cu) O9.out N7.out p
  have hs1 := S2.out.siz
  have HB : Hid (Have w p (.slice (some ⟨b, off, none⟩) n cap) x gF (.slice (some ⟨gu, 0, none⟩) n cu) l (sto2 w9 gF p (.slice (some ⟨gu, 0, none⟩) n cu))) := ⟨S2.out.mono BA, RA, OA.low (by omega), by omega, N7.out⟩
  have hsz := sto2_size w9 gF p (.slice (some ⟨gu, 0, none⟩) n cu)
  clear hb hc B7 O7 R7 R9 RA OA B9 O9 N7 hs3 h34 h45 hs5 B5 B3
  simp only [Sf.fill, List.foldl_nil]
  go_simp
  refine hK _ _ (Sd.Cl.of BA) (by rw [← hsz]; exact Nat.le_refl _) (fun h => absurd rfl h) ?_
  clear hK K c0 c1 f0 f1
  show Sf.wpSf _ _ _ _ _ _ _ _ _ _ (sto2 w9 gF p (.slice (some ⟨gu, 0, none⟩) n cu))
  clear BA hsz
  generalize sto2 w9 gF p (.slice (some ⟨gu, 0, none⟩) n cu) = wA at *
  refine Sf.done (fun wB hb hc => ?_)
  have HV := Lib.hid (HB.out.mono hb)
  clear hb hc HB s0 s1 n7 hs1
  have EY : Hid (∀ u w', Ow K4 w' w.heap.size 71 u (l.set k x) → Below w.heap.size w w' → DoPost w p l 1 k x (.returned (.tuple #[file p u, rec4 x, .int .i64 0])) w') := fun u w' => E.out x u w' (by unfold newR; rw [if_pos rfl])
  have HP := Lib.hid (HV.out.put HLL.out.2.1 k HLL.out.1 x)
  obtain ⟨⟨c0, c1, c2, c3⟩, hfr, _, _⟩ := own4 HV.out.own k HLL.out.1
  have f0 := hfr (k * 4)
  have f1 := hfr (k * 4 + 1)
  have f2 := hfr (k * 4 + 2)
  have f3 := hfr (k * 4 + 3)
  have r1 : wB.cell? ⟨gF, 1, none⟩ = some (.slice (some ⟨gu, 0, none⟩) n cu) := row_cell HV.out.row 1
  have a0 : wB.cell? ⟨w.heap.size + 1, 0, none⟩ = some (.int .u8 x.1) := row_cell HV.out.st.arg 0
  have a1 : wB.cell? ⟨w.heap.size + 1, 1, none⟩ = some (.int .u8 x.2.1) := row_cell HV.out.st.arg 1
  have a2 : wB.cell? ⟨w.heap.size + 1, 2, none⟩ = some (.int .u8 x.2.2.1) := row_cell HV.out.st.arg 2
  have a3 : wB.cell? ⟨w.heap.size + 1, 3, none⟩ = some (.int .u8 x.2.2.2) := row_cell HV.out.st.arg 3
  clear E hfr HV
  go_wp2_with fail
  clear c0 c1 c2 c3 f0 f1 f2 f3 r1 a0 a1 a2 a3
  show Code.wp _ _ _ _ (sto4 wB gu (k * 4) x)
  generalize sto4 wB gu (k * 4) x = Wz at *
  have HV := HP
  clear HP
  obtain ⟨⟨c0, c1, c2, c3⟩, _, _, _⟩ := own4 HV.out.own k (by rw [List.length_set]; exact HLL.out.1)
  rw [rat_set l k HLL.out.1] at c0 c1 c2 c3
  have C0 : Last w p gF (.slice (some ⟨gu, 0, none⟩) n cu) (l.set k x) Wz.drew := ⟨HV.out.row, HV.out.own⟩
  have r0 := Sc.cell_in (C := Last w p gF (.slice (some ⟨gu, 0, none⟩) n cu) (l.set k x)) (a := ⟨gF, 0, none⟩) (fun W' h => row_cell h.1 0)
  have r1 := Sc.cell_in (C := Last w p gF (.slice (some ⟨gu, 0, none⟩) n cu) (l.set k x)) (a := ⟨gF, 1, none⟩) (fun W' h => row_cell h.1 1)
  have HQ : Hid (∀ W', Last w p gF (.slice (some ⟨gu, 0, none⟩) n cu) (l.set k x) W' → (W'.cell? ⟨gu, k * 4, none⟩ = some (.int .u8 x.1) ∧ W'.cell? ⟨gu, k * 4 + 1, none⟩ = some (.int .u8 x.2.1) ∧ W'.cell? ⟨gu, k * 4 + 2, none⟩ = some (.int .u8 x.2.2.1) ∧ W'.cell? ⟨gu, k * 4 + 3, none⟩ = some (.int .u8 x.2.2.2))) := fun W' h => by
    have := (own4 h.2 k (by rw [List.length_set]; exact HLL.out.1)).1
    rw [rat_set l k HLL.out.1] at this
    exact this
  have q0 := Sc.cell_in (C := Last w p gF (.slice (some ⟨gu, 0, none⟩) n cu) (l.set k x)) (fun W' h => (HQ.out W' h).1)
  have q1 := Sc.cell_in (C := Last w p gF (.slice (some ⟨gu, 0, none⟩) n cu) (l.set k x)) (fun W' h => (HQ.out W' h).2.1)
  have q2 := Sc.cell_in (C := Last w p gF (.slice (some ⟨gu, 0, none⟩) n cu) (l.set k x)) (fun W' h => (HQ.out W' h).2.2.1)
  have q3 := Sc.cell_in (C := Last w p gF (.slice (some ⟨gu, 0, none⟩) n cu) (l.set k x)) (fun W' h => (HQ.out W' h).2.2.2)
  have ne : Nonempty (Sc.In (Last w p gF (.slice (some ⟨gu, 0, none⟩) n cu) (l.set k x))) := ⟨⟨_, C0⟩⟩
  clear c0 c1 c2 c3 HQ
  refine Sc.start (Last w p gF (.slice (some ⟨gu, 0, none⟩) n cu) (l.set k x)) [(false, 0), (false, 1), (false, 2), (false, 3), (false, 4), (false, 5), (true, 6), (true, 7), (false, 8)] (by kernel_rfl) (by kernel_rfl) (by kernel_rfl) C0 ?_
  dsimp only [Sd.picks, List.getElem?_cons_succ, List.getElem?_cons_zero]
  repeat (refine Sd.lit ?_; quiet_step (fail); refine wpQuiet_nil ?_)
  have HD : Hid (Have w p (.slice (some ⟨b, off, none⟩) n cap) x gF (.slice (some ⟨gu, 0, none⟩) n cu) (l.set k x) Wz.drew) := HV.out.mono ((Below.refl _ _).drew)
  clear HV r0 r1 q0 q1 q2 q3 C0
  generalize Wz.drew = Wy at *
  refine Sd.call (by rfl) (fun K hK => ?_)
  have c0 : Wy.cell? ⟨w.heap.size + 2, 0, none⟩ = some (.int .i64 0) := row_cell HD.out.st.res1 0
  have c1 : Wy.cell? ⟨w.heap.size + 2, 1, none⟩ = some (.slice none 0 0) := row_cell HD.out.st.res1 1
  have f0 := row_frozen HD.out.st.res1 0
  have f1 := row_frozen HD.out.st.res1 1
  have hge := (own4 HD.out.own k (by rw [List.length_set]; exact HLL.out.1)).2.2.1
  have hF := HD.out.ge
  have n1 : (Value.slice (some ⟨gu, 0, none⟩) n cu).ownBlock ≠ some (w.heap.size + 2) := fun e => by simp [Value.ownBlock] at e; omega
  have n2 : (Value.slice (some ⟨gu, 0, none⟩) n cu).ownBlock ≠ some (w.heap.size + 3) := fun e => by simp [Value.ownBlock] at e; omega
  have L1 : Last w p gF (.slice (some ⟨gu, 0, none⟩) n cu) (l.set k x) (sto2 Wy (w.heap.size + 2) p (.slice (some ⟨gu, 0, none⟩) n cu)) := ⟨sto2_other HD.out.row (by omega), sto2_off HD.out.own n1 p⟩
  have R1 := Lib.hid (sto2_row HD.out.st.res1 p (.slice (some ⟨gu, 0, none⟩) n cu))
  have R2 := sto2_other (g := w.heap.size + 2) (p := p) (v := .slice (some ⟨gu, 0, none⟩) n cu) HD.out.st.res2 (by omega)
  have B1 := Lib.hid (sto2_below (p := p) (v := .slice (some ⟨gu, 0, none⟩) n cu) HD.out.st.bel (show w.heap.size ≤ w.heap.size + 2 by omega))
  clear HD
  go_simp
  refine hK _ _ (Sc.Cl.of L1) ?_
  clear hK K c0 c1 f0 f1
  show Sd.wpSd _ _ _ _ _ _ (sto2 Wy (w.heap.size + 2) p (.slice (some ⟨gu, 0, none⟩) n cu))
  generalize sto2 Wy (w.heap.size + 2) p (.slice (some ⟨gu, 0, none⟩) n cu) = Wx at *
  refine Sd.call (by rfl) (fun K hK => ?_)
  have d0 : Wx.cell? ⟨w.heap.size + 3, 0, none⟩ = some (.int .u8 0) := row_cell R2 0
  have d1 : Wx.cell? ⟨w.heap.size + 3, 1, none⟩ = some (.int .u8 0) := row_cell R2 1
  have d2 : Wx.cell? ⟨w.heap.size + 3, 2, none⟩ = some (.int .u8 0) := row_cell R2 2
  have d3 : Wx.cell? ⟨w.heap.size + 3, 3, none⟩ = some (.int .u8 0) := row_cell R2 3
  have k0 := row_frozen R2 0
  have k1 := row_frozen R2 1
  have k2 := row_frozen R2 2
  have k3 := row_frozen R2 3
  have L2 : Last w p gF (.slice (some ⟨gu, 0, none⟩) n cu) (l.set k x) (sto4 Wx (w.heap.size + 3) 0 x) := ⟨sto4_other L1.1 (by omega), sto4_off L1.2 n2 x⟩
  have R3 := Lib.hid (sto4_row R2 x)
  have R4 := Lib.hid (sto4_other (g := w.heap.size + 3) (o := 0) (r := x) R1.out (by omega))
  have B2 := Lib.hid (sto4_below (o := 0) (r := x) B1.out (show w.heap.size ≤ w.heap.size + 3 by omega))
  clear R2 R1 B1 L1
  go_simp
  refine hK _ _ (Sc.Cl.of L2) ?_
  clear hK K d0 d1 d2 d3 k0 k1 k2 k3
  show Sd.wpSd _ _ _ _ _ _ (sto4 Wx (w.heap.size + 3) 0 x)
  have O2 := Lib.hid L2.2
  clear L2
  generalize sto4 Wx (w.heap.size + 3) 0 x = Ww at *
  repeat (refine Sd.lit ?_; quiet_step (fail); refine wpQuiet_nil ?_)
  refine Sd.done ?_
  go_wp2
  (try simp only [Exit.inBlock, Exit.then])
  exact bodyPost_ret (results_do (p := 8) (q := 9) (r := 10) rfl _ _ (w.heap.size + 2) (w.heap.size + 3) p _ x 0 rfl rfl rfl R4.out R3.out) rfl (EY.out _ _ (O2.out.low (by omega)) B2.out)

set_option maxHeartbeats 1000000 in
theorem rdo_x (w : World) (p : Int) (b off n cap : Nat) (l : List R4) (R : Rd K4 w (.slice (some ⟨b, off, none⟩) n cap) l) (hA : At K4 w b off l) (hl : okL l) (k : Nat) (x : R4) (he : doE p l 2 k = 0) (hz0 : 0 < k) (hq : p / 4 % 2 = 1) (hn : n = l.length) (hk : k < l.length) (hg : goodF p l) : Calls Tryz.prog 70 #[file p (.slice (some ⟨b, off, none⟩) n cap), .int .i64 2, .int .i64 (k : Int), rec4 x] w (DoPost w p l 2 k x) := by
  have S0 : Hid (StartR w p (.slice (some ⟨b, off, none⟩) n cap) x (((((w.alloc (.cells #[.int .i64 p, .slice (some ⟨b, off, none⟩) n cap] 67)).alloc (.cells #[.int .u8 x.1, .int .u8 x.2.1, .int .u8 x.2.2.1, .int .u8 x.2.2.2] 71)).alloc (.cells #[.int .i64 0, .slice none 0 0] 67)).alloc (.cells #[.int .u8 0, .int .u8 0, .int .u8 0, .int .u8 0] 71)).alloc (.cells #[.int .i64 0, .slice none 0 0] 67))) := Lib.hid (StartR.of w p _ x)
  have GR := Lib.hid (at_bool (show goodFB p l = true from decide_eq_true hg) (rgood_any _ p _ l (R.below S0.out.st.bel)))
  have E : Hid (∀ y u w', y = newR l 2 k x → Ow K4 w' w.heap.size 71 u (l.set k y) → Below w.heap.size w w' → DoPost w p l 2 k x (.returned (.tuple #[file p u, rec4 y, .int .i64 0])) w') := fun y u w' hy h hb => ⟨u, by rw [if_pos he, if_pos he, he, hy], by rw [if_pos he, ← hy, Int.toNat_natCast]; exact h, hb⟩
  have HLL := Lib.hid (And.intro hk (And.intro hn hg.2.2.2.1))
  have HA := Lib.hid hA
  have OK := Lib.hid hl
  have hkn : k < n := by omega
  have hkn2 : (k : Int) < n := by omega
  have p0 : 0 ≤ p := hg.1
  have p1 : p ≤ 7 := hg.2.1
  clear he R hA hl hn hk hg
  unfold file rec4 at *
  have hq1 : IntKind.i64.wrap (Int.tdiv p 4) = p / 4 := by rw [Int.tdiv_eq_ediv_of_nonneg p0]; exact IntWalk.i64_in _ (by omega)
  have hq2 : Int.tmod (p / 4) 2 = 1 := by rw [Int.tmod_eq_emod_of_nonneg (by omega)]; exact hq
  clear hq
  have hz : ¬ (k : Int) = 0 := by omega
  have hz2 : ((k : Int) == 0) = false := by simpa using hz
  have hz3 : 0 < (k : Int) := by omega
  go_enter Tryz.func70, Tryz.ntmps70
  go_wp2_with fail
  generalize ((((w.alloc (.cells #[.int .i64 p, .slice (some ⟨b, off, none⟩) n cap] 67)).alloc (.cells #[.int .u8 x.1, .int .u8 x.2.1, .int .u8 x.2.2.1, .int .u8 x.2.2.2] 71)).alloc (.cells #[.int .i64 0, .slice none 0 0] 67)).alloc (.cells #[.int .u8 0, .int .u8 0, .int .u8 0, .int .u8 0] 71)).alloc (.cells #[.int .i64 0, .slice none 0 0] 67) = W at *
  refine GR.out.mono ?_
  rintro e w1 ⟨rfl, b1⟩
  have S1 := Lib.hid (S0.out.mono b1)
  clear b1 S0 GR
  have b0 : w1.cell? ⟨w.heap.size, 0, none⟩ = some (.int .i64 p) := row_cell S1.out.st.box 0
  have b1' : w1.cell? ⟨w.heap.size, 1, none⟩ = some (.slice (some ⟨b, off, none⟩) n cap) := row_cell S1.out.st.box 1
  go_upto_region 9 with fail
  have S2 : Hid (Start w p (.slice (some ⟨b, off, none⟩) n cap) x (w1.alloc (.cells #[.int .i64 1, .int .i64 2, .int .i64 4] 3))) := Lib.hid (S1.out.st.mono ((Below.refl _ _).alloc (Nat.le_refl _) _))
  clear b0 b1' S1
  generalize w1.alloc (.cells #[.int .i64 1, .int .i64 2, .int .i64 4] 3) = w2 at *
  have b0 : w2.cell? ⟨w.heap.size, 0, none⟩ = some (.int .i64 p) := row_cell S2.out.box 0
  have b1' : w2.cell? ⟨w.heap.size, 1, none⟩ = some (.slice (some ⟨b, off, none⟩) n cap) := row_cell S2.out.box 1
  go_upto_region 11 with fail
  clear b0 b1'
  clear hq1 hq2 hz hz2 hz3
  have s0 := Sd.cell_by (show w2.cell? ⟨w.heap.size, 0, none⟩ = some (.int .i64 p) from row_cell S2.out.box 0)
  have s1 := Sd.cell_by (show w2.cell? ⟨w.heap.size, 1, none⟩ = some (.slice (some ⟨b, off, none⟩) n cap) from row_cell S2.out.box 1)
  refine Sf.start [(0, 0), (0, 1), (0, 3), (0, 4), (1, 2), (1, 5), (0, 6), (2, 7), (1, 8)] [⟨7, 13, #[.int .i64 0, .slice none 0 0], 67⟩] (by kernel_rfl) (by kernel_rfl) (by kernel_rfl) (by decide) (by decide) ?_ ?_ ?_
  · simp
  · intro f hf
    simp only [List.mem_cons, List.not_mem_nil, or_false] at hf
    subst hf
    exact ⟨_, rfl, rfl, rfl, fun ρ w => by go_simp⟩
  dsimp only [Sf.picks, List.getElem?_cons_succ, List.getElem?_cons_zero]
  have BW := Lib.hid ((Below.refl w2.heap.size w2).drew)
  repeat (refine Sf.lit (fun xs => ?_); simp only [Sf.fill, List.foldl_cons, List.foldl_nil]; quiet_step (fail); refine wpQuiet_nil ?_)
  refine Sf.call (fun xs w3 hb hc => ⟨by rfl, fun K hK => ?_⟩)
  have B3 := Lib.hid (BW.out.trans (hb.mono BW.out.size))
  clear hb hc BW
  simp only [Sf.fill, List.foldl_cons, List.foldl_nil]
  go_simp
  have bz : Below w3.heap.size w3 (w3.alloc (.cells #[] 71)) := (Below.refl _ _).alloc (Nat.le_refl _) _
  have B4 := Lib.hid (B3.out.trans (bz.mono B3.out.size))
  refine hK _ _ (Sd.Cl.of B4.out) bz.size (fun _ => bz) ?_
  clear hK K bz
  have hs3 := B3.out.size
  have h34 : w3.heap.size ≤ (w3.alloc (.cells #[] 71)).heap.size := by simp
  generalize w3.alloc (.cells #[] 71) = w4 at *
  refine Sf.call (fun xs w5 hb hc => ⟨by rfl, fun K hK => ?_⟩)
  have B5 := Lib.hid (B4.out.trans (hb.mono B4.out.size))
  have A5 := HA.out.below (S2.out.bel.trans (B5.out.mono (by have := S2.out.siz; omega)))
  have h45 := hb.size
  clear hb hc B4
  simp only [Sf.fill, List.foldl_cons, List.foldl_nil]
  refine grow_op Tryz.underlying65 infoR rfl (by omega) _ _ rfl _ rfl b off cap l (by rw [← HLL.out.2.1]; rfl) A5 (by have := HLL.out.1; omega) (by have := HLL.out.2.2; omega) ?_
  intro u w6 o6 b6
  obtain ⟨gu, cu, rfl⟩ := own_form o6 (by have := HLL.out.1; omega)
  rw [← HLL.out.2.1] at o6 ⊢
  have B6 := Lib.hid (B5.out.trans (b6.mono B5.out.size))
  have O6 := Lib.hid o6
  go_simp
  refine hK _ _ (Sd.Cl.of B6.out) b6.size (fun _ => b6) ?_
  clear hK K b6 o6 A5
  repeat (refine Sf.lit (fun xs => ?_); simp only [Sf.fill, List.foldl_cons, List.foldl_nil]; quiet_step (fail); refine wpQuiet_nil ?_)
  refine Sf.meet (fun gF w7 hb hc row n7 hH hL => ?_)
  have B7 := Lib.hid (B6.out.trans (hb.mono B6.out.size))
  have N7 := Lib.hid (O6.out.range (hH _ (List.mem_cons_self ..)))
  have O7 := Lib.hid (O6.out.keep hb)
  have R7 : Hid (w7.heap[gF]? = some (.cells #[.int .i64 0, .slice none 0 0] 67 (0, 0))) := row
  have hs5 := B5.out.size
  clear hb hc row hH hL B6 O6
  refine Sf.call (fun xs w9 hb hc => ⟨by rfl, fun K hK => ?_⟩)
  have B9 := Lib.hid (B7.out.trans (hb.mono B7.out.size))
  have O9 := Lib.hid (O7.out.keep hb)
  have R9 := (hb.block _ (lt_of_block R7.out)).trans R7.out
  have c0 : w9.cell? ⟨gF, 0, none⟩ = some (.int .i64 0) := row_cell R9 0
  have c1 : w9.cell? ⟨gF, 1, none⟩ = some (.slice none 0 0) := row_cell R9 1
  have f0 := row_frozen R9 0
  have f1 := row_frozen R9 1
  have RA := sto2_row R9 p (.slice (some ⟨gu, 0, none⟩) n cu)
  have BA := sto2_below (p := p) (v := .slice (some ⟨gu, 0, none⟩) n cu) B9.out n7
  have OA := sto2_off (u := .slice (some ⟨gu, 0, none⟩) n cu) O9.out N7.out p
  have hs1 := S2.out.siz
  have HB : Hid (Have w p (.slice (some ⟨b, off, none⟩) n cap) x gF (.slice (some ⟨gu, 0, none⟩) n cu) l (sto2 w9 gF p (.slice (some ⟨gu, 0, none⟩) n cu))) := ⟨S2.out.mono BA, RA, OA.low (by omega), by omega, N7.out⟩
  have hsz := sto2_size w9 gF p (.slice (some ⟨gu, 0, none⟩) n cu)
  clear hb hc B7 O7 R7 R9 RA OA B9 O9 N7 hs3 h34 h45 hs5 B5 B3
  simp only [Sf.fill, List.foldl_nil]
  go_simp
  refine hK _ _ (Sd.Cl.of BA) (by rw [← hsz]; exact Nat.le_refl _) (fun h => absurd rfl h) ?_
  clear hK K c0 c1 f0 f1
  show Sf.wpSf _ _ _ _ _ _ _ _ _ _ (sto2 w9 gF p (.slice (some ⟨gu, 0, none⟩) n cu))
  clear BA hsz
  generalize sto2 w9 gF p (.slice (some ⟨gu, 0, none⟩) n cu) = wA at *
  refine Sf.done (fun wB hb hc => ?_)
  have HV := Lib.hid (HB.out.mono hb)
  clear hb hc HB s0 s1 n7 hs1
  have EY : Hid (∀ u w', Ow K4 w' w.heap.size 71 u (l.set k (inc (rat l k))) → Below w.heap.size w w' → DoPost w p l 2 k x (.returned (.tuple #[file p u, rec4 (inc (rat l k)), .int .i64 0])) w') := fun u w' => E.out _ u w' (by unfold newR; rw [if_neg (by decide), if_pos rfl, Int.toNat_natCast])
  have hy := okR_at OK.out k
  obtain ⟨⟨c0, c1, c2, c3⟩, hfr, _, _⟩ := own4 HV.out.own k HLL.out.1
  have r1 : wB.cell? ⟨gF, 1, none⟩ = some (.slice (some ⟨gu, 0, none⟩) n cu) := row_cell HV.out.row 1
  clear E hfr
  obtain ⟨r, hr⟩ : ∃ r, rat l k = r := ⟨_, rfl⟩
  rw [hr] at hy EY c0 c1 c2 c3
  go_upto_region 17 with fail
  have hEX : ((r.fst % 4294967296 * 16777216 + r.snd.fst % 4294967296 * 65536 + r.snd.snd.fst % 4294967296 * 256 + r.snd.snd.snd) % 4294967296 + 1) % 4294967296 = (num r + 1) % 4294967296 := by
    obtain ⟨⟨x0, x1⟩, ⟨y0, y1⟩, ⟨v0, v1⟩, u0, u1⟩ := hy
    unfold num
    omega
  rw [hEX]
  clear hEX hy
  obtain ⟨N, hN⟩ : ∃ N, (num r + 1) % 4294967296 = N := ⟨_, rfl⟩
  have N0 : 0 ≤ N := by omega
  have N1 : N < 4294967296 := by omega
  have hi : inc r = bytes N := by unfold inc; rw [hN]
  rw [hN]
  rw [hi] at EY
  clear hN hi
  have t1 : Int.tdiv N 16777216 = N / 16777216 := Int.tdiv_eq_ediv_of_nonneg N0
  have t2 : Int.tdiv N 65536 = N / 65536 := Int.tdiv_eq_ediv_of_nonneg N0
  have t3 : Int.tdiv N 256 = N / 256 := Int.tdiv_eq_ediv_of_nonneg N0
  have HV2 : Hid (Have w p (.slice (some ⟨b, off, none⟩) n cap) x gF (.slice (some ⟨gu, 0, none⟩) n cu) l (wB.alloc (.cells #[.int .u8 r.1, .int .u8 r.2.1, .int .u8 r.2.2.1, .int .u8 r.2.2.2] 71))) := HV.out.mono ((Below.refl _ _).alloc (Nat.le_refl _) _)
  clear HV c0 c1 c2 c3 r1
  generalize wB.alloc (.cells #[.int .u8 r.1, .int .u8 r.2.1, .int .u8 r.2.2.1, .int .u8 r.2.2.2] 71) = wC at *
  have r1 : wC.cell? ⟨gF, 1, none⟩ = some (.slice (some ⟨gu, 0, none⟩) n cu) := row_cell HV2.out.row 1
  obtain ⟨⟨c0, c1, c2, c3⟩, hfr, _, _⟩ := own4 HV2.out.own k HLL.out.1
  have f0 := hfr (k * 4)
  have f1 := hfr (k * 4 + 1)
  have f2 := hfr (k * 4 + 2)
  have f3 := hfr (k * 4 + 3)
  clear hfr
  have HP := Lib.hid (HV2.out.put HLL.out.2.1 k HLL.out.1 (bytes N))
  clear HV2
  go_upto_region 18 with fail
  clear c0 c1 c2 c3 f0 f1 f2 f3 r1 t1 t2 t3
  show Code.wp _ _ _ _ (sto4 wC gu (k * 4) (bytes N))
  generalize bytes N = y at *
  generalize sto4 wC gu (k * 4) y = Wz at *
  have HV := HP
  clear HP
  obtain ⟨⟨c0, c1, c2, c3⟩, _, _, _⟩ := own4 HV.out.own k (by rw [List.length_set]; exact HLL.out.1)
  rw [rat_set l k HLL.out.1] at c0 c1 c2 c3
  have C0 : Last w p gF (.slice (some ⟨gu, 0, none⟩) n cu) (l.set k y) Wz.drew := ⟨HV.out.row, HV.out.own⟩
  have r0 := Sc.cell_in (C := Last w p gF (.slice (some ⟨gu, 0, none⟩) n cu) (l.set k y)) (a := ⟨gF, 0, none⟩) (fun W' h => row_cell h.1 0)
  have r1 := Sc.cell_in (C := Last w p gF (.slice (some ⟨gu, 0, none⟩) n cu) (l.set k y)) (a := ⟨gF, 1, none⟩) (fun W' h => row_cell h.1 1)
  have HQ : Hid (∀ W', Last w p gF (.slice (some ⟨gu, 0, none⟩) n cu) (l.set k y) W' → (W'.cell? ⟨gu, k * 4, none⟩ = some (.int .u8 y.1) ∧ W'.cell? ⟨gu, k * 4 + 1, none⟩ = some (.int .u8 y.2.1) ∧ W'.cell? ⟨gu, k * 4 + 2, none⟩ = some (.int .u8 y.2.2.1) ∧ W'.cell? ⟨gu, k * 4 + 3, none⟩ = some (.int .u8 y.2.2.2))) := fun W' h => by
    have := (own4 h.2 k (by rw [List.length_set]; exact HLL.out.1)).1
    rw [rat_set l k HLL.out.1] at this
    exact this
  have q0 := Sc.cell_in (C := Last w p gF (.slice (some ⟨gu, 0, none⟩) n cu) (l.set k y)) (fun W' h => (HQ.out W' h).1)
  have q1 := Sc.cell_in (C := Last w p gF (.slice (some ⟨gu, 0, none⟩) n cu) (l.set k y)) (fun W' h => (HQ.out W' h).2.1)
  have q2 := Sc.cell_in (C := Last w p gF (.slice (some ⟨gu, 0, none⟩) n cu) (l.set k y)) (fun W' h => (HQ.out W' h).2.2.1)
  have q3 := Sc.cell_in (C := Last w p gF (.slice (some ⟨gu, 0, none⟩) n cu) (l.set k y)) (fun W' h => (HQ.out W' h).2.2.2)
  have ne : Nonempty (Sc.In (Last w p gF (.slice (some ⟨gu, 0, none⟩) n cu) (l.set k y))) := ⟨⟨_, C0⟩⟩
  clear c0 c1 c2 c3 HQ
  refine Sc.start (Last w p gF (.slice (some ⟨gu, 0, none⟩) n cu) (l.set k y)) [(false, 0), (false, 1), (false, 2), (false, 3), (false, 4), (false, 5), (true, 6), (true, 7), (false, 8)] (by kernel_rfl) (by kernel_rfl) (by kernel_rfl) C0 ?_
  dsimp only [Sd.picks, List.getElem?_cons_succ, List.getElem?_cons_zero]
  repeat (refine Sd.lit ?_; quiet_step (fail); refine wpQuiet_nil ?_)
  have HD : Hid (Have w p (.slice (some ⟨b, off, none⟩) n cap) x gF (.slice (some ⟨gu, 0, none⟩) n cu) (l.set k y) Wz.drew) := HV.out.mono ((Below.refl _ _).drew)
  clear HV r0 r1 q0 q1 q2 q3 C0
  generalize Wz.drew = Wy at *
  refine Sd.call (by rfl) (fun K hK => ?_)
  have c0 : Wy.cell? ⟨w.heap.size + 2, 0, none⟩ = some (.int .i64 0) := row_cell HD.out.st.res1 0
  have c1 : Wy.cell? ⟨w.heap.size + 2, 1, none⟩ = some (.slice none 0 0) := row_cell HD.out.st.res1 1
  have f0 := row_frozen HD.out.st.res1 0
  have f1 := row_frozen HD.out.st.res1 1
  have hge := (own4 HD.out.own k (by rw [List.length_set]; exact HLL.out.1)).2.2.1
  have hF := HD.out.ge
  have n1 : (Value.slice (some ⟨gu, 0, none⟩) n cu).ownBlock ≠ some (w.heap.size + 2) := fun e => by simp [Value.ownBlock] at e; omega
  have n2 : (Value.slice (some ⟨gu, 0, none⟩) n cu).ownBlock ≠ some (w.heap.size + 3) := fun e => by simp [Value.ownBlock] at e; omega
  have L1 : Last w p gF (.slice (some ⟨gu, 0, none⟩) n cu) (l.set k y) (sto2 Wy (w.heap.size + 2) p (.slice (some ⟨gu, 0, none⟩) n cu)) := ⟨sto2_other HD.out.row (by omega), sto2_off HD.out.own n1 p⟩
  have R1 := Lib.hid (sto2_row HD.out.st.res1 p (.slice (some ⟨gu, 0, none⟩) n cu))
  have R2 := sto2_other (g := w.heap.size + 2) (p := p) (v := .slice (some ⟨gu, 0, none⟩) n cu) HD.out.st.res2 (by omega)
  have B1 := Lib.hid (sto2_below (p := p) (v := .slice (some ⟨gu, 0, none⟩) n cu) HD.out.st.bel (show w.heap.size ≤ w.heap.size + 2 by omega))
  clear HD
  go_simp
  refine hK _ _ (Sc.Cl.of L1) ?_
  clear hK K c0 c1 f0 f1
  show Sd.wpSd _ _ _ _ _ _ (sto2 Wy (w.heap.size + 2) p (.slice (some ⟨gu, 0, none⟩) n cu))
  generalize sto2 Wy (w.heap.size + 2) p (.slice (some ⟨gu, 0, none⟩) n cu) = Wx at *
  refine Sd.call (by rfl) (fun K hK => ?_)
  have d0 : Wx.cell? ⟨w.heap.size + 3, 0, none⟩ = some (.int .u8 0) := row_cell R2 0
  have d1 : Wx.cell? ⟨w.heap.size + 3, 1, none⟩ = some (.int .u8 0) := row_cell R2 1
  have d2 : Wx.cell? ⟨w.heap.size + 3, 2, none⟩ = some (.int .u8 0) := row_cell R2 2
  have d3 : Wx.cell? ⟨w.heap.size + 3, 3, none⟩ = some (.int .u8 0) := row_cell R2 3
  have k0 := row_frozen R2 0
  have k1 := row_frozen R2 1
  have k2 := row_frozen R2 2
  have k3 := row_frozen R2 3
  have L2 : Last w p gF (.slice (some ⟨gu, 0, none⟩) n cu) (l.set k y) (sto4 Wx (w.heap.size + 3) 0 y) := ⟨sto4_other L1.1 (by omega), sto4_off L1.2 n2 y⟩
  have R3 := Lib.hid (sto4_row R2 y)
  have R4 := Lib.hid (sto4_other (g := w.heap.size + 3) (o := 0) (r := y) R1.out (by omega))
  have B2 := Lib.hid (sto4_below (o := 0) (r := y) B1.out (show w.heap.size ≤ w.heap.size + 3 by omega))
  clear R2 R1 B1 L1
  go_simp
  refine hK _ _ (Sc.Cl.of L2) ?_
  clear hK K d0 d1 d2 d3 k0 k1 k2 k3
  show Sd.wpSd _ _ _ _ _ _ (sto4 Wx (w.heap.size + 3) 0 y)
  have O2 := Lib.hid L2.2
  clear L2
  generalize sto4 Wx (w.heap.size + 3) 0 y = Ww at *
  repeat (refine Sd.lit ?_; quiet_step (fail); refine wpQuiet_nil ?_)
  refine Sd.done ?_
  go_wp2
  (try simp only [Exit.inBlock, Exit.then])
  exact bodyPost_ret (results_do (p := 8) (q := 9) (r := 10) rfl _ _ (w.heap.size + 2) (w.heap.size + 3) p _ y 0 rfl rfl rfl R4.out R3.out) rfl (EY.out _ _ (O2.out.low (by omega)) B2.out)

theorem rdo_any (w : World) (p : Int) (v : Value) (l : List R4) (R : Rd K4 w v l) (hl : okL l) (op rec : Int) (x : R4) : Calls Tryz.prog 70 #[file p v, .int .i64 op, .int .i64 rec, rec4 x] w (DoPost w p l op rec x) := by
  obtain ⟨a, cap, rfl, _⟩ := R.slice
  by_cases hg : goodF p l
  · by_cases ho : 0 ≤ op ∧ op ≤ 2
    · by_cases hr : 0 ≤ rec ∧ rec < l.length
      · by_cases hk : rec = 0 ∧ op = 0 ∨ 0 < rec ∧ p / need op % 2 = 1
        · have he := doE_0 hg ho hr hk
          obtain ⟨k, rfl⟩ : ∃ k : Nat, rec = k := ⟨rec.toNat, by omega⟩
          have hkl : k < l.length := by omega
          obtain ⟨b, off, rfl, hA⟩ : ∃ b off, a = some ⟨b, off, none⟩ ∧ At K4 w b off l := by
            obtain ⟨a', cap', e, _, _, h4⟩ := R
            injection e with e1 e2 e3
            subst e1
            exact h4 (by omega)
          rcases yes4 he with ⟨rfl, h0⟩ | ⟨rfl, h0, hq⟩ | ⟨rfl, h0, hq⟩ | ⟨rfl, h0, hq⟩
          · exact rdo_h w p b off _ cap l R hA hl k x he h0 rfl hkl hg
          · exact rdo_r w p b off _ cap l R hA hl k x he h0 hq rfl hkl hg
          · exact rdo_w w p b off _ cap l R hA hl k x he h0 hq rfl hkl hg
          · exact rdo_x w p b off _ cap l R hA hl k x he h0 hq rfl hkl hg
        · exact rdo_5 w p a _ cap l R op rec x hg ho hr hk
      · exact rdo_4 w p a _ cap l R op rec x hg ho hr
    · exact rdo_1 w p a _ cap l R op rec x hg ho
  · exact rdo_2 w p a _ cap l R op rec x hg

end Go.Proofs.YtilacdjekdngkaaGreatDoor.Fl
