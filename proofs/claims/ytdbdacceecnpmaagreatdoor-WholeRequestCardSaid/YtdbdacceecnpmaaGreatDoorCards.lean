/-
  DERIVED. GIVEN WITH THE SEED: THE CARDS: each row of YtdbdacceecnpmaaGreatDoorRows.lean that lists a variable, with what it lists TIED to the program's text (the seventh form; the later family's looks); each row that meets fmt, with fmt's text TOLD by the authors' own Lean function (tested against real Go, not proved from fmt's source: count such statements apart). THE CARD IS WHAT COUNTS. Prove the row's statement (the work); the ties are given (YtdbdacceecnpmaaGreatDoorTie.lean); close each card by the builder's one call (the guide's Derived/Test/ToyasCard.lean, 'card_holds'). Laid BY PROGRAM, IN A SANDBOX (cutbox-door.mjs). By AI agents, Wed Nov 11 2026. No macro, syntax, notation, axiom, sorry.
-/
import Derived.Test.YtdbdacceecnpmaaGreatDoorRows
import GoSem.ClaimSeven
namespace Go.Proofs.YtdbdacceecnpmaaGreatDoor
namespace Rows

/-- THE TIED CARD OF 'haywardlaw23.GateOnce'. -/
def gateOnceCard : Claim7 := { stood := { row := gateOnceRow, standIns := [], harness := (true, "4f283090ce7d9b6548ffebdfbc2cca221a6cee072c2c25a20b89f945dee499ea"), looks := true }, kinds := [], alts := [], laidByText := true, laidKinds := [.handle], laidTests := true, laidLooks := .later }
def GateOnceCardSaid : Prop := Claim7.holds Tryz.pinned (.plain (OpenSpec.ofChange gateOnceSpec)) gateOnceCard

/-- THE TIED CARD OF 'haywardtop.WholeAny'. -/
def wholeAnyCard : Claim7 := { stood := { row := wholeAnyRow, standIns := [], harness := (true, "4f283090ce7d9b6548ffebdfbc2cca221a6cee072c2c25a20b89f945dee499ea"), looks := true }, kinds := [], alts := [], laidByText := true, laidKinds := [.handle], laidTests := true, laidLooks := .later }
def WholeAnyCardSaid : Prop := Claim7.holds Tryz.pinned (.plain (OpenSpec.ofChange wholeAnySpec)) wholeAnyCard

/-- THE TIED CARD OF 'haywardtop.WholeRequest'. -/
def wholeRequestCard : Claim7 := { stood := { row := wholeRequestRow, standIns := [], harness := (true, "4f283090ce7d9b6548ffebdfbc2cca221a6cee072c2c25a20b89f945dee499ea"), looks := true }, kinds := [], alts := [], laidByText := true, laidKinds := [.handle], laidTests := true, laidLooks := .later }
def WholeRequestCardSaid : Prop := Claim7.holds Tryz.pinned (.plain (OpenSpec.ofChange wholeRequestSpec)) wholeRequestCard

/-- THE SECOND FORM's CARD OF 'haywardlaw23.GateOnce'. -/
def gateOnceUptoCard : Claim7 := { stood := { row := gateOnceUptoRow, standIns := [], harness := (true, "4f283090ce7d9b6548ffebdfbc2cca221a6cee072c2c25a20b89f945dee499ea"), looks := true }, kinds := [], alts := [], laidByText := true, laidKinds := [.handle], laidTests := true, laidLooks := .later }
def GateOnceUptoCardSaid : Prop := Claim7.holds Tryz.pinned (.plain (OpenSpec.upto gateOnceSpec)) gateOnceUptoCard

/-- THE SECOND FORM's CARD OF 'haywardtop.WholeAny'. -/
def wholeAnyUptoCard : Claim7 := { stood := { row := wholeAnyUptoRow, standIns := [], harness := (true, "4f283090ce7d9b6548ffebdfbc2cca221a6cee072c2c25a20b89f945dee499ea"), looks := true }, kinds := [], alts := [], laidByText := true, laidKinds := [.handle], laidTests := true, laidLooks := .later }
def WholeAnyUptoCardSaid : Prop := Claim7.holds Tryz.pinned (.plain (OpenSpec.upto wholeAnySpec)) wholeAnyUptoCard

/-- THE SECOND FORM's CARD OF 'haywardtop.WholeRequest'. -/
def wholeRequestUptoCard : Claim7 := { stood := { row := wholeRequestUptoRow, standIns := [], harness := (true, "4f283090ce7d9b6548ffebdfbc2cca221a6cee072c2c25a20b89f945dee499ea"), looks := true }, kinds := [], alts := [], laidByText := true, laidKinds := [.handle], laidTests := true, laidLooks := .later }
def WholeRequestUptoCardSaid : Prop := Claim7.holds Tryz.pinned (.plain (OpenSpec.upto wholeRequestSpec)) wholeRequestUptoCard
end Rows
end Go.Proofs.YtdbdacceecnpmaaGreatDoor
