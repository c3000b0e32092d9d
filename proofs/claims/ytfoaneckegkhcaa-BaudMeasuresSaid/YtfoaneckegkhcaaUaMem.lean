/- Arrays of eleven bools: as values, in memory, written in one place, handed on and compared. -/
import Derived.Test.YtfoaneckegkhcaaUaMath
import Derived.Test.YtfoaneckegkhcaaChecked
import Derived.Laws.Rows
import Derived.Deep.WholeRow
import Derived.DeepKeys
import Derived.LoopTactic
import Derived.Outline
import Derived.Deep.LoopGhost
import Derived.Deep.Draws
import Derived.Lib.Hide
namespace Go.Proofs.Ytfoaneckegkhcaa.Ua
open Go.RowKit

/-- The eleven cells of a frame. -/
def arr (F : Nat → Bool) : Array Value := #[.bool (F 0), .bool (F 1), .bool (F 2), .bool (F 3), .bool (F 4), .bool (F 5), .bool (F 6), .bool (F 7), .bool (F 8), .bool (F 9), .bool (F 10)]
theorem arr_size (F : Nat → Bool) : (arr F).size = 11 := rfl
theorem arr_one (F : Nat → Bool) : (arr F).all (·.oneCell') = true := by simp [arr, Value.oneCell']
theorem arr_get (F : Nat → Bool) (k : Nat) (h : k < 11) : (arr F)[k]? = some (.bool (F k)) := by
  rcases (by omega : k = 0 ∨ k = 1 ∨ k = 2 ∨ k = 3 ∨ k = 4 ∨ k = 5 ∨ k = 6 ∨ k = 7 ∨ k = 8 ∨ k = 9 ∨ k = 10) with rfl | rfl | rfl | rfl | rfl | rfl | rfl | rfl | rfl | rfl | rfl <;> rfl
theorem arr_set (F : Nat → Bool) (k : Nat) (h : k < 11) (x : Bool) : (arr F).setIfInBounds k (.bool x) = arr (upd F k x) := by
  rcases (by omega : k = 0 ∨ k = 1 ∨ k = 2 ∨ k = 3 ∨ k = 4 ∨ k = 5 ∨ k = 6 ∨ k = 7 ∨ k = 8 ∨ k = 9 ∨ k = 10) with rfl | rfl | rfl | rfl | rfl | rfl | rfl | rfl | rfl | rfl | rfl <;> rfl
theorem arr_congr {F G : Nat → Bool} (h : ∀ i, i < 11 → F i = G i) : arr F = arr G := by
  unfold arr
  rw [h 0 (by omega), h 1 (by omega), h 2 (by omega), h 3 (by omega), h 4 (by omega), h 5 (by omega), h 6 (by omega), h 7 (by omega), h 8 (by omega), h 9 (by omega), h 10 (by omega)]

/-- Block g holds just the frame. -/
def Row (w : World) (g : Nat) (F : Nat → Bool) : Prop := w.heap[g]? = some (.cells (arr F) 41 (0, 0))
section
variable {w w' : World} {g : Nat} {F : Nat → Bool}
theorem Row.lt (h : Row w g F) : g < w.heap.size := lt_of_block h
theorem Row.cell (h : Row w g F) (k : Nat) (hk : k < 11) : w.cell? ⟨g, k, none⟩ = some (.bool (F k)) := by rw [cell_of_row w g k _ _ (0, 0) h, arr_get F k hk]
theorem Row.frozen (h : Row w g F) (k : Nat) : w.frozen? ⟨g, k, none⟩ = false := frozen_of_row w g k _ _ h
theorem Row.new (w : World) (F : Nat → Bool) : Row (w.alloc (.cells (arr F) 41)) w.heap.size F := heap_alloc_new w _
theorem Row.draw (h : Row w g F) (n : Nat) : Row (w.drewN n) g F := h
theorem Row.alloc (h : Row w g F) (o : Obj) : Row (w.alloc o) g F := (Below.heap_alloc w o g h.lt).trans h
theorem Row.set_ (h : Row w g F) (k : Nat) (hk : k < 11) (x : Bool) : Row (w.setCell ⟨g, k, none⟩ (.bool x)) g (upd F k x) := by
  unfold Row at h ⊢
  rw [heap_setCell_same w g k _ _ _ h, arr_set F k hk x]
theorem Row.far (h : Row w g F) {p : Addr} (hp : g ≠ p.block) (u : Value) : Row (w.setCell p u) g F := (Below.heap_setCell w p u g hp).trans h
theorem Row.row (h : Row w g F) (G : Nat → Bool) : Row (w.setRow g (arr G)) g G := setRow_heap w g _ _ _ _ h
theorem Row.below {B : Nat} (h : Row w g F) (hb : Below B w w') (hg : g < B) : Row w' g F := (hb.block g hg).trans h
theorem Row.to {G : Nat → Bool} (h : Row w g F) (e : ∀ i, i < 11 → F i = G i) : Row w g G := by unfold Row at *; rw [h, arr_congr e]
theorem Row.load (h : Row w g F) : (loadVar 41 ⟨g, 0, none⟩).run Try.prog w = .ok (.agg (arr F)) w :=
  run_loadVar_row w g _ _ (arr F) (0, 0) _ h Try.underlying41 rfl (by rw [arr_size]; kernel_rfl)
end
theorem info : (Try.prog.info? 41).map (·.size) = some 11 := by kernel_rfl
theorem info_of (F : Nat → Bool) : (Try.prog.info? 41).map (·.size) = some (arr F).size := by rw [arr_size]; exact info

/-- The whole frame out of its block, and into one; a result that lies in a block. -/
theorem load_frame {ops : Array Oper} {rest : List Oper} {o : Oper} {a : Act} {w : World} {Q : Exit → Act → World → Prop} (hgd : o.guard = none) (x : Operand) (ho : o.op = .load 41 x)
    (g : Nat) (F : Nat → Bool) (hx : a.eval x = .pointer (some ⟨g, 0, none⟩)) (hrow : Row w g F) (h : wpList Try.prog ops Q rest (a.put o.dst (.agg (arr F))) w) : wpList Try.prog ops Q (o :: rest) a w :=
  wpList_load_row hgd _ x ho g hx _ _ _ _ hrow Try.underlying41 rfl (info_of _) h
theorem store_frame {ops : Array Oper} {rest : List Oper} {o : Oper} {a : Act} {w : World} {Q : Exit → Act → World → Prop} (hgd : o.guard = none) (x y : Operand) (ho : o.op = .store 41 x y)
    (g : Nat) (F G : Nat → Bool) (hx : a.eval x = .pointer (some ⟨g, 0, none⟩)) (hy : a.eval y = .agg (arr F)) (hrow : Row w g G) (h : wpList Try.prog ops Q rest (a.put o.dst undef) (w.setRow g (arr F))) : wpList Try.prog ops Q (o :: rest) a w :=
  wpList_store_row hgd _ x y ho g _ hx hy _ _ hrow (info_of _) rfl (arr_one _) h
/-- A frame into a block that was just made. -/
theorem store_new {ops : Array Oper} {rest : List Oper} {o : Oper} {a : Act} {w : World} {Q : Exit → Act → World → Prop} (hgd : o.guard = none) (x y : Operand) (ho : o.op = .store 41 x y)
    (F : Nat → Bool) (hx : a.eval x = .pointer (some ⟨w.heap.size, 0, none⟩)) (hy : a.eval y = .agg (arr F)) (h : wpList Try.prog ops Q rest (a.put o.dst undef) (w.alloc (.cells (arr F) 41))) :
    wpList Try.prog ops Q (o :: rest) a (w.alloc (.cells #[.bool false, .bool false, .bool false, .bool false, .bool false, .bool false, .bool false, .bool false, .bool false, .bool false, .bool false] 41)) :=
  store_frame hgd x y ho _ F (fun _ => false) hx hy (Row.new w (fun _ => false)) (by rw [World.setRow_alloc_new]; exact h)
/-- The last two operations of a function that hands a frame back: out of its block, and into the result's. -/
theorem copy_frame {ops : Array Oper} {rest : List Oper} {o o' : Oper} {a : Act} {w : World} {Q : Exit → Act → World → Prop} (hg : o.guard = none) (hg' : o'.guard = none) (x y : Operand) (d : Tmp) (ho : o.op = .load 41 x) (hd : o.dst = some d) (ho' : o'.op = .store 41 y (.tmp d))
    (g g' : Nat) (F G : Nat → Bool) (hx : a.eval x = .pointer (some ⟨g, 0, none⟩)) (hy : (a.put (some d) (.agg (arr F))).eval y = .pointer (some ⟨g', 0, none⟩)) (hz : (a.put (some d) (.agg (arr F))).eval (.tmp d) = .agg (arr F)) (hrow : Row w g F) (hrow' : Row w g' G)
    (h : wpList Try.prog ops Q rest ((a.put (some d) (.agg (arr F))).put o'.dst undef) (w.setRow g' (arr F))) : wpList Try.prog ops Q (o :: o' :: rest) a w :=
  load_frame hg x ho g F hx hrow (by rw [hd]; exact store_frame hg' y (.tmp d) ho' g' F G hy hz hrow' h)
theorem results_frame {fn : Func} {p : Tmp} (h : fn.results = #[.cell p 41]) (tmps : Array Value) (w : World) (g : Nat) (F : Nat → Bool) (hp : tmps.getD p undef = .pointer (some ⟨g, 0, none⟩)) (hrow : Row w g F) :
    (results fn tmps).run Try.prog w = .ok (.agg (arr F)) w := results_cell_row h tmps w g _ _ _ _ hp hrow Try.underlying41 rfl (info_of _)

theorem below_setRow {B : Nat} {a w : World} (h : Below B a w) (g : Nat) (cs : Array Value) (hg : B ≤ g) : Below B a (w.setRow g cs) :=
  ⟨h.os, h.tape, h.output, by rw [size_setRow]; exact h.size, fun k hk => (setRow_other w g k cs (by omega)).trans (h.block k hk)⟩

theorem ret_bool {a b : Bool} (h : a = b) : Ending.returned (.bool a) = .returned (.bool b) := by rw [h]
theorem ret_int {k : IntKind} {a b : Int} (h : a = b) : Ending.returned (.int k a) = .returned (.int k b) := by rw [h]
theorem ret_arr {F G : Nat → Bool} (h : ∀ i, i < 11 → F i = G i) : Ending.returned (.agg (arr F)) = .returned (.agg (arr G)) := by rw [arr_congr h]
/-- Two frames that are one are equal to Go. -/
theorem key_arr (F : Nat → Bool) : ∃ l, keyOf Try.prog 41 (.agg (arr F)) = some l := Option.isSome_iff_exists.1 (by kernel_rfl)
theorem eq_same (F : Nat → Bool) (w : World) : (Op.equalIn 10000 41 (.agg (arr F)) (.agg (arr F))).run Try.prog w = .ok true w := by
  obtain ⟨l, hl⟩ := key_arr F
  obtain ⟨r, hr, hiff⟩ := run_equal_deep (P := Try.prog) w (m := 2) (by omega) (by kernel_rfl) (by kernel_rfl) hl hl
  rw [hiff.2 rfl] at hr
  exact hr

theorem at_frame {P : Program} {f : Nat} {args : Array Value} {w : World} {F G : Nat → Bool} (e : ∀ i, i < 11 → F i = G i) (c : Calls P f args w fun e w' => e = .returned (.agg (arr F)) ∧ Below w.heap.size w w') : Calls P f args w fun e w' => e = .returned (.agg (arr G)) ∧ Below w.heap.size w w' := by rw [← arr_congr e]; exact c
theorem at_three {P : Program} {f : Nat} {args : Array Value} {w : World} {a c a' c' : Int} {p b' : Bool} (e1 : a = a') (e2 : p = b') (e3 : c = c') (h : Calls P f args w fun e w' => e = .returned (.tuple #[.int .u8 a, .bool p, .int .i64 c]) ∧ Below w.heap.size w w') :
    Calls P f args w fun e w' => e = .returned (.tuple #[.int .u8 a', .bool b', .int .i64 c']) ∧ Below w.heap.size w w' := by rw [← e1, ← e2, ← e3]; exact h

end Go.Proofs.Ytfoaneckegkhcaa.Ua
