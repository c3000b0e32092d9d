/- send.during: the ticks from which on an oscillator has counted so far, up to when it has counted so much more; and send.Window. -/
import Derived.Test.YtfoaneckegkhcaaSeMath
import Derived.Test.YtfoaneckegkhcaaTkGlob
namespace Go.Proofs.Ytfoaneckegkhcaa.Se
open Go.RowKit Go.Proofs.Ytfoaneckegkhcaa.Tk

set_option maxHeartbeats 400000 in
theorem during_any (w : World) (v : Value) (n : Nat) (A R : Nat → Int) (S : Tk.Steps w v n A R) (g : GoodP n A R) (m d : Int) (m0 : 0 ≤ m) (m1 : m ≤ 4294967296) (d0 : 0 ≤ d) (d1 : d ≤ 4294967296) :
    Calls Try.prog 21 #[v, .int .i64 m, .int .i64 d] w fun e w' => e = .returned (.agg #[.int .i64 (Glo A R n m), .int .i64 (Glo A R n (m + d))]) ∧ Below w.heap.size w w' := by
  have hb0 : Below w.heap.size w (w.alloc (.cells #[.int .i64 0, .int .i64 0] 45)) := (Below.refl _ _).alloc (Nat.le_refl _) _
  have S0 := Lib.hid (S.below hb0)
  have G := Lib.hid g
  have HB := Lib.hid hb0
  clear S g hb0
  go_enter Try.func21, Try.ntmps21
  go_wp2_with fail
  refine (global_any _ _ _ _ _ _ S0.out G.out).mono ?_
  rintro e w1 ⟨rfl, b1⟩
  have S1 := Lib.hid (S0.out.below b1)
  have c0 : w1.cell? ⟨w.heap.size, 0, none⟩ = some (.int .i64 0) := (b1.cell (by simp)).trans (by go_simp)
  have c1 : w1.cell? ⟨w.heap.size, 1, none⟩ = some (.int .i64 0) := (b1.cell (by simp)).trans (by go_simp)
  have f0 : w1.frozen? ⟨w.heap.size, 0, none⟩ = false := (b1.frozen (by simp)).trans (by go_simp)
  have f1 : w1.frozen? ⟨w.heap.size, 1, none⟩ = false := (b1.frozen (by simp)).trans (by go_simp)
  have z1 := b1.size
  simp at z1
  have B1 := Lib.hid (HB.out.trans (b1.mono (B' := w.heap.size) (by simp)))
  clear b1
  have F0 := Lib.hid f0
  have F1 := Lib.hid f1
  have C0 := Lib.hid c0
  have C1 := Lib.hid c1
  clear c0 c1 f0 f1
  go_wp2_with fail
  refine (global_any _ _ _ _ _ _ S1.out G.out).mono ?_
  rintro e w2 ⟨rfl, b2⟩
  have c0 : w2.cell? ⟨w.heap.size, 0, none⟩ = some (.int .i64 0) := (b2.cell (by show w.heap.size < w1.heap.size; omega)).trans C0.out
  have c1 : w2.cell? ⟨w.heap.size, 1, none⟩ = some (.int .i64 0) := (b2.cell (by show w.heap.size < w1.heap.size; omega)).trans C1.out
  have f0 : w2.frozen? ⟨w.heap.size, 0, none⟩ = false := (b2.frozen (by show w.heap.size < w1.heap.size; omega)).trans F0.out
  have f1 : w2.frozen? ⟨w.heap.size, 1, none⟩ = false := (b2.frozen (by show w.heap.size < w1.heap.size; omega)).trans F1.out
  have z2 := b2.size
  have B2 := Lib.hid (B1.out.trans (b2.mono (B' := w.heap.size) (by omega)))
  clear b2
  go_wp2
  refine bodyPost_ret (v := .agg #[.int .i64 (Glo A R n m), .int .i64 (Glo A R n (m + d))]) (by simp [results, Try.results21, go_sem, c0, c1]) rfl ⟨rfl, ?_⟩
  exact (B2.out.setCell (by simp) _).setCell (by simp) _

end Go.Proofs.Ytfoaneckegkhcaa.Se
