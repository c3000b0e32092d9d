/-
  DERIVED. GIVEN WITH THE SEED: THE CARDS: each row of YtilacdjekdngkaaGreatDoorRows.lean that lists a variable, with what it lists TIED to the program's text (the seventh form; the later family's looks); each row that meets fmt, with fmt's text TOLD by the authors' own Lean function (tested against real Go, not proved from fmt's source: count such statements apart). THE CARD IS WHAT COUNTS. Prove the row's statement (the work); the ties are given (YtilacdjekdngkaaGreatDoorTie.lean); close each card by the builder's one call (the guide's Derived/Test/ToyasCard.lean, 'card_holds'). Laid BY PROGRAM, IN A SANDBOX (cutbox-door.mjs). By AI agents, Wed Nov 11 2026. No macro, syntax, notation, axiom, sorry.
-/
import Derived.Test.YtilacdjekdngkaaGreatDoorRows
import GoSem.ClaimSeven
namespace Go.Proofs.YtilacdjekdngkaaGreatDoor
namespace Rows

/-- THE TIED CARD OF 'haywardlaw14.PartRounds'. -/
def partRoundsCard : Claim7 := { stood := { row := partRoundsRow, standIns := [], harness := (true, "a39e14ab4554bee74d3960e9cc97c265c48cfa0783ca36fbb04f4eda259425bd"), looks := true }, kinds := [], alts := [], laidByText := true, laidKinds := [.handle], laidTests := true, laidLooks := .later }
def PartRoundsCardSaid : Prop := Claim7.holds Tryz.pinned (.plain (OpenSpec.ofChange partRoundsSpec)) partRoundsCard

/-- THE TIED CARD OF 'haywardlaw14.PartWhole'. -/
def partWholeCard : Claim7 := { stood := { row := partWholeRow, standIns := [], harness := (true, "a39e14ab4554bee74d3960e9cc97c265c48cfa0783ca36fbb04f4eda259425bd"), looks := true }, kinds := [], alts := [], laidByText := true, laidKinds := [.handle], laidTests := true, laidLooks := .later }
def PartWholeCardSaid : Prop := Claim7.holds Tryz.pinned (.plain (OpenSpec.ofChange partWholeSpec)) partWholeCard

/-- THE SECOND FORM's CARD OF 'haywardlaw14.PartRounds'. -/
def partRoundsUptoCard : Claim7 := { stood := { row := partRoundsUptoRow, standIns := [], harness := (true, "a39e14ab4554bee74d3960e9cc97c265c48cfa0783ca36fbb04f4eda259425bd"), looks := true }, kinds := [], alts := [], laidByText := true, laidKinds := [.handle], laidTests := true, laidLooks := .later }
def PartRoundsUptoCardSaid : Prop := Claim7.holds Tryz.pinned (.plain (OpenSpec.upto partRoundsSpec)) partRoundsUptoCard

/-- THE SECOND FORM's CARD OF 'haywardlaw14.PartWhole'. -/
def partWholeUptoCard : Claim7 := { stood := { row := partWholeUptoRow, standIns := [], harness := (true, "a39e14ab4554bee74d3960e9cc97c265c48cfa0783ca36fbb04f4eda259425bd"), looks := true }, kinds := [], alts := [], laidByText := true, laidKinds := [.handle], laidTests := true, laidLooks := .later }
def PartWholeUptoCardSaid : Prop := Claim7.holds Tryz.pinned (.plain (OpenSpec.upto partWholeSpec)) partWholeUptoCard
end Rows
end Go.Proofs.YtilacdjekdngkaaGreatDoor
