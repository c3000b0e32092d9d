/- The fixed fact of layer 9. -/
import Derived.Test.YthendmibanghmaaFlDo
import Derived.Deep.Cut
namespace Go.Proofs.Ythendmibanghmaa.Fl
open Go.RowKit
open Go.Proofs.Ythendmibanghmaa.Rw (Rd Ow At)

def NewIs (w : World) (q : Int) (m : List R4) (d : Int) (e : Ending) (w' : World) : Prop := ∃ u, e = .returned (.tuple #[file q u, .int .i64 d]) ∧ Rd K4 w' u m ∧ Below w.heap.size w w'
theorem new_is (w : World) (p n q : Int) (m : List R4) (d : Int) (h1 : (if newP p n then p else 0) = q) (h2 : (if newP p n then newL p n else []) = m) (h3 : (if newP p n then (0 : Int) else 1) = d) : Calls Try.prog 13 #[.int .i64 p, .int .i64 n] w (NewIs w q m d) := by
  subst h1 h2 h3
  exact new_any w p n
def DoIs (w : World) (q : Int) (y : R4) (m : List R4) (d : Int) (e : Ending) (w' : World) : Prop := ∃ u, e = .returned (.tuple #[file q u, rec4 y, .int .i64 d]) ∧ Rd K4 w' u m ∧ Below w.heap.size w w'
theorem do_is (w : World) (p : Int) (v : Value) (l : List R4) (R : Rd K4 w v l) (hl : okL l) (op rec : Int) (x : R4) (q : Int) (y : R4) (m : List R4) (d : Int) (h0 : doE p l op rec = d) (h1 : (if d = 0 then p else 0) = q) (h2 : (if d = 0 then newR l op rec x else z4) = y) (h3 : (if d = 0 then l.set rec.toNat (newR l op rec x) else []) = m) :
    Calls Try.prog 6 #[file p v, .int .i64 op, .int .i64 rec, rec4 x] w (DoIs w q y m d) := by
  refine (do_any w p v l R hl op rec x).mono ?_
  rintro e w' ⟨u, e1, o, b⟩
  rw [h0, h1, h2] at e1
  rw [h0, h3] at o
  exact ⟨u, e1, o.rd, b⟩
/-- A file and a record laid one behind the other. -/
theorem two_new (w : World) (q : Int) (u : Value) (cs : Array Value) : ((w.alloc (.cells #[.int .i64 q, u] 24)).alloc (.cells cs 26)).heap[w.heap.size]? = some (.cells #[.int .i64 q, u] 24 (0, 0)) ∧ ((w.alloc (.cells #[.int .i64 q, u] 24)).alloc (.cells cs 26)).heap[w.heap.size + 1]? = some (.cells cs 26 (0, 0)) ∧ Below w.heap.size w ((w.alloc (.cells #[.int .i64 q, u] 24)).alloc (.cells cs 26)) := by
  have z1 : ∀ a, (w.alloc a).heap.size = w.heap.size + 1 := fun a => by simp
  refine ⟨(Below.heap_alloc _ _ _ (by rw [z1]; omega)).trans (heap_alloc_new w _), ?_, ((Below.refl w.heap.size w).alloc (Nat.le_refl _) _).alloc (by simp) _⟩
  have := heap_alloc_new (w.alloc (.cells #[.int .i64 q, u] 24)) (.cells cs 26)
  rw [z1] at this
  exact this

def A0 : List R4 := [(2, 6, 165, 161), (0, 0, 0, 0), (0, 0, 0, 0)]
def A1 : List R4 := [(2, 6, 165, 161), (0, 0, 0, 255), (0, 0, 0, 0)]
def A2 : List R4 := [(2, 6, 165, 161), (0, 0, 1, 0), (0, 0, 0, 0)]
theorem okA0 : okL A0 := by intro r h; simp only [A0, List.mem_cons, List.not_mem_nil, or_false] at h; rcases h with rfl | rfl | rfl <;> unfold okR <;> decide
theorem okA1 : okL A1 := by intro r h; simp only [A1, List.mem_cons, List.not_mem_nil, or_false] at h; rcases h with rfl | rfl | rfl <;> unfold okR <;> decide

set_option maxHeartbeats 2000000 in
theorem awake_any (w : World) : Calls Try.prog 9 #[] w fun e w' => e = .returned (.bool true) ∧ Below w.heap.size w w' := by
  have N1 := Lib.hid (new_is w 6 2 6 A0 0 (by decide +kernel) (by decide +kernel) (by decide +kernel))
  have D1 : Hid (∀ W u, Rd K4 W u A0 → Calls Try.prog 6 #[file 6 u, .int .i64 1, .int .i64 1, rec4 (0, 0, 0, 255)] W (DoIs W 6 (0, 0, 0, 255) A1 0)) := fun W u h => do_is W 6 u A0 h okA0 1 1 _ 6 _ A1 0 (by decide +kernel) (by decide +kernel) (by decide +kernel) (by decide +kernel)
  have D2 : Hid (∀ W u, Rd K4 W u A1 → Calls Try.prog 6 #[file 6 u, .int .i64 2, .int .i64 1, rec4 z4] W (DoIs W 6 (0, 0, 1, 0) A2 0)) := fun W u h => do_is W 6 u A1 h okA1 2 1 _ 6 _ A2 0 (by decide +kernel) (by decide +kernel) (by decide +kernel) (by decide +kernel)
  have D3 : Hid (∀ W u, Rd K4 W u A1 → Calls Try.prog 6 #[file 6 u, .int .i64 0, .int .i64 1, rec4 z4] W (DoIs W 0 z4 [] 5)) := fun W u h => do_is W 6 u A1 h okA1 0 1 _ 0 _ [] 5 (by decide +kernel) (by decide +kernel) (by decide +kernel) (by decide +kernel)
  have D4 : Hid (∀ W u, Rd K4 W u A1 → Calls Try.prog 6 #[file 6 u, .int .i64 0, .int .i64 0, rec4 z4] W (DoIs W 6 (2, 6, 165, 161) A1 0)) := fun W u h => do_is W 6 u A1 h okA1 0 0 _ 6 _ A1 0 (by decide +kernel) (by decide +kernel) (by decide +kernel) (by decide +kernel)
  unfold file rec4 z4 at *
  generalize A0 = l0 at *
  generalize A1 = l1 at *
  generalize A2 = l2 at *
  unfold NewIs DoIs at *
  unfold file rec4 at *
  go_enter Try.func9, Try.ntmps9
  go_wp2_with fail
  refine N1.out.mono ?_
  rintro e w1 ⟨u1, rfl, r1, b1⟩
  obtain ⟨a1, n1, c1, rfl⟩ : ∃ a n c, u1 = .slice a n c := by obtain ⟨a, c, e, _⟩ := r1.slice; exact ⟨a, _, c, e⟩
  have R1 := Lib.hid (r1.below ((Below.refl w1.heap.size w1).alloc (Nat.le_refl _) (.cells #[.int .i64 6, .slice a1 n1 c1] 24)))
  have B1 := Lib.hid (b1.trans (((Below.refl w1.heap.size w1).alloc (Nat.le_refl _) (.cells #[.int .i64 6, .slice a1 n1 c1] 24)).mono b1.size))
  clear r1 b1 N1
  go_wp2_with fail
  generalize w1.alloc (.cells #[.int .i64 6, .slice a1 n1 c1] 24) = W1 at *
  refine (D1.out _ _ R1.out).mono ?_
  rintro e w2 ⟨u2, rfl, r2, b2⟩
  obtain ⟨a2, n2, c2, rfl⟩ : ∃ a n c, u2 = .slice a n c := by obtain ⟨a, c, e, _⟩ := r2.slice; exact ⟨a, _, c, e⟩
  obtain ⟨t1, t2, t3⟩ := two_new w2 6 (.slice a2 n2 c2) #[.int .u8 0, .int .u8 0, .int .u8 0, .int .u8 255]
  have R2 := Lib.hid (r2.below t3)
  have B2 := Lib.hid (B1.out.trans ((b2.trans (t3.mono b2.size)).mono B1.out.size))
  have F2_2 := Lib.hid t1
  have G2_2 := Lib.hid t2
  clear r2 b2 t1 t2 t3 B1 R1 D1
  go_wp2_with fail
  generalize (w2.alloc (.cells #[.int .i64 6, .slice a2 n2 c2] 24)).alloc (.cells #[.int .u8 0, .int .u8 0, .int .u8 0, .int .u8 255] 26) = W2 at *
  have k0 : W2.cell? ⟨w2.heap.size, 0, none⟩ = some (.int .i64 6) := row_cell F2_2.out 0
  have k1 : W2.cell? ⟨w2.heap.size, 1, none⟩ = some (.slice a2 n2 c2) := row_cell F2_2.out 1
  refine (D2.out _ _ R2.out).mono ?_
  rintro e w3 ⟨u3, rfl, r3, b3⟩
  obtain ⟨a3, n3, c3, rfl⟩ : ∃ a n c, u3 = .slice a n c := by obtain ⟨a, c, e, _⟩ := r3.slice; exact ⟨a, _, c, e⟩
  obtain ⟨t1, t2, t3⟩ := two_new w3 6 (.slice a3 n3 c3) #[.int .u8 0, .int .u8 0, .int .u8 1, .int .u8 0]
  have bb := b3.trans (t3.mono b3.size)
  have B3 := Lib.hid (B2.out.trans (bb.mono B2.out.size))
  have R3 := Lib.hid (R2.out.below bb)
  have F2_3 := Lib.hid ((bb.block _ (lt_of_block F2_2.out)).trans F2_2.out)
  have G2_3 := Lib.hid ((bb.block _ (lt_of_block G2_2.out)).trans G2_2.out)
  have G3_3 := Lib.hid t2
  clear r3 b3 t1 t2 t3 bb k0 k1 B2 R2 F2_2 G2_2
  go_upto_region 4 with fail
  generalize (w3.alloc (.cells #[.int .i64 6, .slice a3 n3 c3] 24)).alloc (.cells #[.int .u8 0, .int .u8 0, .int .u8 1, .int .u8 0] 26) = W3 at *
  have k0 : W3.cell? ⟨w2.heap.size, 0, none⟩ = some (.int .i64 6) := row_cell F2_3.out 0
  have k1 : W3.cell? ⟨w2.heap.size, 1, none⟩ = some (.slice a2 n2 c2) := row_cell F2_3.out 1
  go_wp2_with fail
  refine (D3.out _ _ R3.out).mono ?_
  rintro e w4 ⟨u4, rfl, r4, b4⟩
  obtain ⟨a4, n4, c4, rfl⟩ : ∃ a n c, u4 = .slice a n c := by obtain ⟨a, c, e, _⟩ := r4.slice; exact ⟨a, _, c, e⟩
  obtain ⟨t1, t2, t3⟩ := two_new w4 0 (.slice a4 n4 c4) #[.int .u8 0, .int .u8 0, .int .u8 0, .int .u8 0]
  have bb := b4.trans (t3.mono b4.size)
  have B4 := Lib.hid (B3.out.trans (bb.mono B3.out.size))
  have R4 := Lib.hid (R3.out.below bb)
  have F2_4 := Lib.hid ((bb.block _ (lt_of_block F2_3.out)).trans F2_3.out)
  have G2_4 := Lib.hid ((bb.block _ (lt_of_block G2_3.out)).trans G2_3.out)
  have G3_4 := Lib.hid ((bb.block _ (lt_of_block G3_3.out)).trans G3_3.out)
  have G4_4 := Lib.hid t2
  clear r4 b4 t1 t2 t3 bb k0 k1 B3 R3 F2_3 G2_3 G3_3
  go_upto_region 5 with fail
  generalize (w4.alloc (.cells #[.int .i64 0, .slice a4 n4 c4] 24)).alloc (.cells #[.int .u8 0, .int .u8 0, .int .u8 0, .int .u8 0] 26) = W4 at *
  have k0 : W4.cell? ⟨w2.heap.size, 0, none⟩ = some (.int .i64 6) := row_cell F2_4.out 0
  have k1 : W4.cell? ⟨w2.heap.size, 1, none⟩ = some (.slice a2 n2 c2) := row_cell F2_4.out 1
  go_wp2_with fail
  refine (D4.out _ _ R4.out).mono ?_
  rintro e w5 ⟨u5, rfl, r5, b5⟩
  obtain ⟨a5, n5, c5, rfl⟩ : ∃ a n c, u5 = .slice a n c := by obtain ⟨a, c, e, _⟩ := r5.slice; exact ⟨a, _, c, e⟩
  obtain ⟨t1, t2, t3⟩ := two_new w5 6 (.slice a5 n5 c5) #[.int .u8 2, .int .u8 6, .int .u8 165, .int .u8 161]
  have bb := b5.trans (t3.mono b5.size)
  have B5 := Lib.hid (B4.out.trans (bb.mono B4.out.size))
  have R5 := Lib.hid (R4.out.below bb)
  have F2_5 := Lib.hid ((bb.block _ (lt_of_block F2_4.out)).trans F2_4.out)
  have G2_5 := Lib.hid ((bb.block _ (lt_of_block G2_4.out)).trans G2_4.out)
  have G3_5 := Lib.hid ((bb.block _ (lt_of_block G3_4.out)).trans G3_4.out)
  have G5_5 := Lib.hid t2
  clear r5 b5 t1 t2 t3 bb k0 k1 B4 R4 F2_4 G2_4 G3_4
  go_upto_region 6 with fail
  generalize (w5.alloc (.cells #[.int .i64 6, .slice a5 n5 c5] 24)).alloc (.cells #[.int .u8 2, .int .u8 6, .int .u8 165, .int .u8 161] 26) = W5 at *
  have G2c0 : W5.cell? ⟨w2.heap.size + 1, 0, none⟩ = some (.int .u8 0) := row_cell G2_5.out 0
  have G2c1 : W5.cell? ⟨w2.heap.size + 1, 1, none⟩ = some (.int .u8 0) := row_cell G2_5.out 1
  have G2c2 : W5.cell? ⟨w2.heap.size + 1, 2, none⟩ = some (.int .u8 0) := row_cell G2_5.out 2
  have G2c3 : W5.cell? ⟨w2.heap.size + 1, 3, none⟩ = some (.int .u8 255) := row_cell G2_5.out 3
  have G3c0 : W5.cell? ⟨w3.heap.size + 1, 0, none⟩ = some (.int .u8 0) := row_cell G3_5.out 0
  have G3c1 : W5.cell? ⟨w3.heap.size + 1, 1, none⟩ = some (.int .u8 0) := row_cell G3_5.out 1
  have G3c2 : W5.cell? ⟨w3.heap.size + 1, 2, none⟩ = some (.int .u8 1) := row_cell G3_5.out 2
  have G3c3 : W5.cell? ⟨w3.heap.size + 1, 3, none⟩ = some (.int .u8 0) := row_cell G3_5.out 3
  have G5c0 : W5.cell? ⟨w5.heap.size + 1, 0, none⟩ = some (.int .u8 2) := row_cell G5_5.out 0
  have G5c1 : W5.cell? ⟨w5.heap.size + 1, 1, none⟩ = some (.int .u8 6) := row_cell G5_5.out 1
  have G5c2 : W5.cell? ⟨w5.heap.size + 1, 2, none⟩ = some (.int .u8 165) := row_cell G5_5.out 2
  have G5c3 : W5.cell? ⟨w5.heap.size + 1, 3, none⟩ = some (.int .u8 161) := row_cell G5_5.out 3
  have e1 : ∀ w, (Op.equalIn 10000 26 (.agg #[.int .u8 0, .int .u8 0, .int .u8 0, .int .u8 255]) (.agg #[.int .u8 0, .int .u8 0, .int .u8 0, .int .u8 255])).run Try.prog w = .ok true w := fun w => by have := eq_rec (0, 0, 0, 255) (0, 0, 0, 255) w; rwa [decide_eq_true rfl] at this
  have e2 : ∀ w, (Op.equalIn 10000 26 (.agg #[.int .u8 0, .int .u8 0, .int .u8 1, .int .u8 0]) (.agg #[.int .u8 0, .int .u8 0, .int .u8 1, .int .u8 0])).run Try.prog w = .ok true w := fun w => by have := eq_rec (0, 0, 1, 0) (0, 0, 1, 0) w; rwa [decide_eq_true rfl] at this
  have e3 : ∀ w, (Op.equalIn 10000 26 (.agg #[.int .u8 2, .int .u8 6, .int .u8 165, .int .u8 161]) (.agg #[.int .u8 2, .int .u8 6, .int .u8 165, .int .u8 161])).run Try.prog w = .ok true w := fun w => by have := eq_rec (2, 6, 165, 161) (2, 6, 165, 161) w; rwa [decide_eq_true rfl] at this
  go_wp2
  go_ret
  exact ⟨rfl, B5.out⟩

end Go.Proofs.Ythendmibanghmaa.Fl
