/- file.Good. -/
import Derived.Test.YtfbhmhgmebaoaaaFlSmall
import Derived.Test.YtfbhmhgmebaoaaaAb
import Derived.Test.YtfbhmhgmebaoaaaQk
namespace Go.Proofs.Ytfbhmhgmebaoaaa.Fl
open Go.RowKit
open Go.Proofs.Ytfbhmhgmebaoaaa.Rw (Rd Ow At)
attribute [local irreducible] Sd.wpSd wpQuiet

end Go.Proofs.Ytfbhmhgmebaoaaa.Fl
