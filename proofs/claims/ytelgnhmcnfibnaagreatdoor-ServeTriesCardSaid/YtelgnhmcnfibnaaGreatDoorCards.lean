/-
  DERIVED. GIVEN WITH THE SEED: THE CARDS: each row of YtelgnhmcnfibnaaGreatDoorRows.lean that lists a variable, with what it lists TIED to the program's text (the seventh form; the later family's looks); each row that meets fmt, with fmt's text TOLD by the authors' own Lean function (tested against real Go, not proved from fmt's source: count such statements apart). THE CARD IS WHAT COUNTS. Prove the row's statement (the work); the ties are given (YtelgnhmcnfibnaaGreatDoorTie.lean); close each card by the builder's one call (the guide's Derived/Test/ToyasCard.lean, 'card_holds'). Laid BY PROGRAM, IN A SANDBOX (cutbox-door.mjs). By AI agents, Wed Nov 11 2026. No macro, syntax, notation, axiom, sorry.
-/
import Derived.Test.YtelgnhmcnfibnaaGreatDoorRows
import GoSem.ClaimSeven
namespace Go.Proofs.YtelgnhmcnfibnaaGreatDoor
namespace Rows

/-- THE TIED CARD OF 'haywardlaw16.ServeBytes'. -/
def serveBytesCard : Claim7 := { stood := { row := serveBytesRow, standIns := [], harness := (true, "479bfcec6052c74361e6fdf77c95770f1f3be2af38931d64454ef284bb71f480"), looks := true }, kinds := [], alts := [], laidByText := true, laidKinds := [.handle], laidTests := true, laidLooks := .later }
def ServeBytesCardSaid : Prop := Claim7.holds Tryz.pinned (.plain (OpenSpec.ofChange serveBytesSpec)) serveBytesCard

/-- THE TIED CARD OF 'haywardlaw16.ServeTries'. -/
def serveTriesCard : Claim7 := { stood := { row := serveTriesRow, standIns := [], harness := (true, "479bfcec6052c74361e6fdf77c95770f1f3be2af38931d64454ef284bb71f480"), looks := true }, kinds := [], alts := [], laidByText := true, laidKinds := [.handle], laidTests := true, laidLooks := .later }
def ServeTriesCardSaid : Prop := Claim7.holds Tryz.pinned (.plain (OpenSpec.ofChange serveTriesSpec)) serveTriesCard

/-- THE SECOND FORM's CARD OF 'haywardlaw16.ServeBytes'. -/
def serveBytesUptoCard : Claim7 := { stood := { row := serveBytesUptoRow, standIns := [], harness := (true, "479bfcec6052c74361e6fdf77c95770f1f3be2af38931d64454ef284bb71f480"), looks := true }, kinds := [], alts := [], laidByText := true, laidKinds := [.handle], laidTests := true, laidLooks := .later }
def ServeBytesUptoCardSaid : Prop := Claim7.holds Tryz.pinned (.plain (OpenSpec.upto serveBytesSpec)) serveBytesUptoCard

/-- THE SECOND FORM's CARD OF 'haywardlaw16.ServeTries'. -/
def serveTriesUptoCard : Claim7 := { stood := { row := serveTriesUptoRow, standIns := [], harness := (true, "479bfcec6052c74361e6fdf77c95770f1f3be2af38931d64454ef284bb71f480"), looks := true }, kinds := [], alts := [], laidByText := true, laidKinds := [.handle], laidTests := true, laidLooks := .later }
def ServeTriesUptoCardSaid : Prop := Claim7.holds Tryz.pinned (.plain (OpenSpec.upto serveTriesSpec)) serveTriesUptoCard
end Rows
end Go.Proofs.YtelgnhmcnfibnaaGreatDoor
