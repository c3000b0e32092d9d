/-
  DERIVED. GIVEN WITH THE SEED: THE CARDS: each row of YtoeemngekioldaaDoorRows.lean that lists a variable, with what it lists TIED to the program's text (the seventh form; the later family's looks); each row that meets fmt, with fmt's text TOLD by the authors' own Lean function (tested against real Go, not proved from fmt's source: count such statements apart). THE CARD IS WHAT COUNTS. Prove the row's statement (the work); the ties are given (YtoeemngekioldaaDoorTie.lean); close each card by the builder's one call (the guide's Derived/Test/ToyasCard.lean, 'card_holds'). Laid BY PROGRAM, IN A SANDBOX (cutbox-door.mjs). By AI agents, Wed Nov 11 2026. No macro, syntax, notation, axiom, sorry.
-/
import Derived.Test.YtoeemngekioldaaDoorRows
import GoSem.ClaimSeven
namespace Go.Proofs.YtoeemngekioldaaDoor
namespace Rows

/-- THE TIED CARD OF 'haywardlaw10.IfsDoes'. -/
def ifsDoesCard : Claim7 := { stood := { row := ifsDoesRow, standIns := [], harness := (true, "e413bdecfdaee8c347fe4e3e3a908b83b8887621c87418fff961424ffad30e19"), looks := true }, kinds := [], alts := [], laidByText := true, laidKinds := [.handle], laidTests := true, laidLooks := .later }
def IfsDoesCardSaid : Prop := Claim7.holds Tryd.pinned (.plain (OpenSpec.ofChange ifsDoesSpec)) ifsDoesCard

/-- THE TIED CARD OF 'haywardlaw10.IfsCopies'. -/
def ifsCopiesCard : Claim7 := { stood := { row := ifsCopiesRow, standIns := [], harness := (true, "e413bdecfdaee8c347fe4e3e3a908b83b8887621c87418fff961424ffad30e19"), looks := true }, kinds := [], alts := [], laidByText := true, laidKinds := [.handle], laidTests := true, laidLooks := .later }
def IfsCopiesCardSaid : Prop := Claim7.holds Tryd.pinned (.plain (OpenSpec.ofChange ifsCopiesSpec)) ifsCopiesCard

/-- THE TIED CARD OF 'haywardlaw10.IfsNobody'. -/
def ifsNobodyCard : Claim7 := { stood := { row := ifsNobodyRow, standIns := [], harness := (true, "e413bdecfdaee8c347fe4e3e3a908b83b8887621c87418fff961424ffad30e19"), looks := true }, kinds := [], alts := [], laidByText := true, laidKinds := [.handle], laidTests := true, laidLooks := .later }
def IfsNobodyCardSaid : Prop := Claim7.holds Tryd.pinned (.plain (OpenSpec.ofChange ifsNobodySpec)) ifsNobodyCard

/-- THE SECOND FORM's CARD OF 'haywardlaw10.IfsDoes'. -/
def ifsDoesUptoCard : Claim7 := { stood := { row := ifsDoesUptoRow, standIns := [], harness := (true, "e413bdecfdaee8c347fe4e3e3a908b83b8887621c87418fff961424ffad30e19"), looks := true }, kinds := [], alts := [], laidByText := true, laidKinds := [.handle], laidTests := true, laidLooks := .later }
def IfsDoesUptoCardSaid : Prop := Claim7.holds Tryd.pinned (.plain (OpenSpec.upto ifsDoesSpec)) ifsDoesUptoCard

/-- THE SECOND FORM's CARD OF 'haywardlaw10.IfsCopies'. -/
def ifsCopiesUptoCard : Claim7 := { stood := { row := ifsCopiesUptoRow, standIns := [], harness := (true, "e413bdecfdaee8c347fe4e3e3a908b83b8887621c87418fff961424ffad30e19"), looks := true }, kinds := [], alts := [], laidByText := true, laidKinds := [.handle], laidTests := true, laidLooks := .later }
def IfsCopiesUptoCardSaid : Prop := Claim7.holds Tryd.pinned (.plain (OpenSpec.upto ifsCopiesSpec)) ifsCopiesUptoCard

/-- THE SECOND FORM's CARD OF 'haywardlaw10.IfsNobody'. -/
def ifsNobodyUptoCard : Claim7 := { stood := { row := ifsNobodyUptoRow, standIns := [], harness := (true, "e413bdecfdaee8c347fe4e3e3a908b83b8887621c87418fff961424ffad30e19"), looks := true }, kinds := [], alts := [], laidByText := true, laidKinds := [.handle], laidTests := true, laidLooks := .later }
def IfsNobodyUptoCardSaid : Prop := Claim7.holds Tryd.pinned (.plain (OpenSpec.upto ifsNobodySpec)) ifsNobodyUptoCard
end Rows
end Go.Proofs.YtoeemngekioldaaDoor
