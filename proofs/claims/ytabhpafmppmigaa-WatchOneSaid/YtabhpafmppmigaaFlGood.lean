/- file.Good. -/
import Derived.Test.YtabhpafmppmigaaFlSmall
import Derived.Test.YtabhpafmppmigaaQk
namespace Go.Proofs.Ytabhpafmppmigaa.Fl
open Go.RowKit
open Go.Proofs.Ytabhpafmppmigaa.Rw (Rd Ow At)
attribute [local irreducible] Sd.wpSd wpQuiet

end Go.Proofs.Ytabhpafmppmigaa.Fl
