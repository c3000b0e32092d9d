/- file.New. -/
import Derived.Test.YtabhpafmppmigaaFlBase
import Derived.OwnWalk
import Derived.Test.YtabhpafmppmigaaSc
namespace Go.Proofs.Ytabhpafmppmigaa.Fl
open Go.RowKit
open Go.Proofs.Ytabhpafmppmigaa.Rw (Rd Ow At)
attribute [local irreducible] Sd.wpSd wpQuiet

theorem set_zero (h : R4) (n : Nat) : (List.replicate (n + 1) z4).set 0 h = h :: List.replicate n z4 := by rw [List.replicate_succ]; rfl

end Go.Proofs.Ytabhpafmppmigaa.Fl
