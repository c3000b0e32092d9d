/- file.New. -/
import Derived.Test.YtfbhmhgmebaoaaaFlBase
import Derived.Test.YtfbhmhgmebaoaaaAb
import Derived.OwnWalk
import Derived.Test.YtfbhmhgmebaoaaaSc
namespace Go.Proofs.Ytfbhmhgmebaoaaa.Fl
open Go.RowKit
open Go.Proofs.Ytfbhmhgmebaoaaa.Rw (Rd Ow At)
attribute [local irreducible] Sd.wpSd wpQuiet

theorem set_zero (h : R4) (n : Nat) : (List.replicate (n + 1) z4).set 0 h = h :: List.replicate n z4 := by rw [List.replicate_succ]; rfl

/-- A new file's records are the call's own. -/
def NewOwn (w : World) (p n : Int) (e : Ending) (w' : World) : Prop := ∃ u, e = .returned (.tuple #[file p u, .int .i64 0]) ∧ Ow K4 w' w.heap.size 31 u (newL p n) ∧ Below w.heap.size w w'
end Go.Proofs.Ytfbhmhgmebaoaaa.Fl
