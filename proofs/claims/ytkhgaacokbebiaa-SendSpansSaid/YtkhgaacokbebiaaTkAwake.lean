/- The fixed fact of layer 1: that it is true. -/
import Derived.Test.YtkhgaacokbebiaaTkGlob
import Derived.Test.YtkhgaacokbebiaaTkRGood
namespace Go.Proofs.Ytkhgaacokbebiaa.Tk
open Go.RowKit

def two (x y : Int) (i : Nat) : Int := if i = 0 then x else y

theorem steps_two (W : World) (a b c d : Int) : Steps (W.alloc (.cells #[.int .i64 a, .int .i64 b, .int .i64 c, .int .i64 d] 40)) (.slice (some ⟨W.heap.size, 0, none⟩) 2 2) 2 (two a c) (two b d) := by
  refine .inr ⟨_, _, _, rfl, by omega, by unfold maxLen; omega, fun i hi => ?_⟩
  rcases (by omega : i = 0 ∨ i = 1) with rfl | rfl
  · exact ⟨by go_simp; rfl, by go_simp; rfl⟩
  · exact ⟨by go_simp; rfl, by go_simp; rfl⟩

theorem good_ex : GoodP 2 (two 0 2000) (two 1000 (-1000)) := by
  refine ⟨by omega, fun i hi => ?_, fun i hi => ?_, fun i hi => ?_⟩
  · rcases (by omega : i = 0 ∨ i = 1) with rfl | rfl <;> simp [two]
  · rcases (by omega : i = 0 ∨ i = 1) with rfl | rfl <;> simp [two]
  · obtain rfl : i = 0 := by omega
    simp [two]
theorem bad_ex : goodB 2 (two 1 1) (two 0 0) = false := goodB_no fun g => by
  have := g.up 0 (by omega)
  simp [two] at this
theorem stop_ex (t : Int) (h : 0 < t) (h' : t ≤ 2000) : AtStop (two 0 2000) 2 t 1 := by
  refine ⟨by omega, fun i hi => ?_, fun _ => ?_⟩
  · obtain rfl : i = 0 := by omega
    simp [two]; omega
  · simp [two]; omega
theorem loc_ex (t : Int) (h : 0 < t) (h' : t ≤ 2000) : Loc (two 0 2000) (two 1000 (-1000)) 2 t = t * 1001000 / 1000000 := by
  rw [Loc, clamp_id (by omega) (by omega), PP_eq (stop_ex t h h')]
  simp [pp, sm, fr, rt, two]
theorem loc_4000 : Loc (two 0 2000) (two 1000 (-1000)) 2 4000 = 4000 := by
  have s : AtStop (two 0 2000) 2 4000 2 := by
    refine ⟨by omega, fun i hi => ?_, fun h => by omega⟩
    rcases (by omega : i = 0 ∨ i = 1) with rfl | rfl <;> simp [two]
  rw [Loc, clamp_id (by omega) (by omega), PP_eq s]
  simp [pp, sm, fr, rt, two]
theorem glo_1001 : Glo (two 0 2000) (two 1000 (-1000)) 2 1001 = 1000 := by
  refine Glo_eq ⟨by omega, by omega, fun t h0 h1 => ?_, fun _ => ?_⟩
  · have := Loc_mono good_ex (show t ≤ 999 by omega)
    rw [loc_ex 999 (by omega) (by omega)] at this
    omega
  · rw [loc_ex 1000 (by omega) (by omega)]
    omega

/-- A contract at a value that is known. -/
theorem at_val {P : Program} {f : Nat} {args : Array Value} {w : World} {k : IntKind} {a b : Int} (e : a = b) (c : Calls P f args w fun e w' => e = .returned (.int k a) ∧ Below w.heap.size w w') : Calls P f args w fun e w' => e = .returned (.int k b) ∧ Below w.heap.size w w' := by rw [← e]; exact c
theorem at_bool {P : Program} {f : Nat} {args : Array Value} {w : World} {a b : Bool} (e : a = b) (c : Calls P f args w fun e w' => e = .returned (.bool a) ∧ Below w.heap.size w w') : Calls P f args w fun e w' => e = .returned (.bool b) ∧ Below w.heap.size w w' := by rw [← e]; exact c

end Go.Proofs.Ytkhgaacokbebiaa.Tk
