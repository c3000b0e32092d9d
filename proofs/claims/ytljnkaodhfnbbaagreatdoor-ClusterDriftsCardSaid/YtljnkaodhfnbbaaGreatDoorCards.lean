/-
  DERIVED. GIVEN WITH THE SEED: THE CARDS: each row of YtljnkaodhfnbbaaGreatDoorRows.lean that lists a variable, with what it lists TIED to the program's text (the seventh form; the later family's looks); each row that meets fmt, with fmt's text TOLD by the authors' own Lean function (tested against real Go, not proved from fmt's source: count such statements apart). THE CARD IS WHAT COUNTS. Prove the row's statement (the work); the ties are given (YtljnkaodhfnbbaaGreatDoorTie.lean); close each card by the builder's one call (the guide's Derived/Test/ToyasCard.lean, 'card_holds'). Laid BY PROGRAM, IN A SANDBOX (cutbox-door.mjs). By AI agents, Wed Nov 11 2026. No macro, syntax, notation, axiom, sorry.
-/
import Derived.Test.YtljnkaodhfnbbaaGreatDoorRows
import GoSem.ClaimSeven
namespace Go.Proofs.YtljnkaodhfnbbaaGreatDoor
namespace Rows

/-- THE TIED CARD OF 'haywardlaw20.ClusterDoes'. -/
def clusterDoesCard : Claim7 := { stood := { row := clusterDoesRow, standIns := [], harness := (true, "1927e61759dceb7f3c76e0789d3edb7d4d9e14da07104fac68fa0427e7476634"), looks := true }, kinds := [], alts := [], laidByText := true, laidKinds := [.handle], laidTests := true, laidLooks := .later }
def ClusterDoesCardSaid : Prop := Claim7.holds Tryz.pinned (.plain (OpenSpec.ofChange clusterDoesSpec)) clusterDoesCard

/-- THE TIED CARD OF 'haywardlaw20.ClusterDrifts'. -/
def clusterDriftsCard : Claim7 := { stood := { row := clusterDriftsRow, standIns := [], harness := (true, "1927e61759dceb7f3c76e0789d3edb7d4d9e14da07104fac68fa0427e7476634"), looks := true }, kinds := [], alts := [], laidByText := true, laidKinds := [.handle], laidTests := true, laidLooks := .later }
def ClusterDriftsCardSaid : Prop := Claim7.holds Tryz.pinned (.plain (OpenSpec.ofChange clusterDriftsSpec)) clusterDriftsCard

/-- THE TIED CARD OF 'haywardlaw20.ClusterDown'. -/
def clusterDownCard : Claim7 := { stood := { row := clusterDownRow, standIns := [], harness := (true, "1927e61759dceb7f3c76e0789d3edb7d4d9e14da07104fac68fa0427e7476634"), looks := true }, kinds := [], alts := [], laidByText := true, laidKinds := [.handle], laidTests := true, laidLooks := .later }
def ClusterDownCardSaid : Prop := Claim7.holds Tryz.pinned (.plain (OpenSpec.ofChange clusterDownSpec)) clusterDownCard

/-- THE TIED CARD OF 'haywardlaw20.ClusterServes'. -/
def clusterServesCard : Claim7 := { stood := { row := clusterServesRow, standIns := [], harness := (true, "1927e61759dceb7f3c76e0789d3edb7d4d9e14da07104fac68fa0427e7476634"), looks := true }, kinds := [], alts := [], laidByText := true, laidKinds := [.handle], laidTests := true, laidLooks := .later }
def ClusterServesCardSaid : Prop := Claim7.holds Tryz.pinned (.plain (OpenSpec.ofChange clusterServesSpec)) clusterServesCard

/-- THE TIED CARD OF 'haywardtop.WholeAtomic'. -/
def wholeAtomicCard : Claim7 := { stood := { row := wholeAtomicRow, standIns := [], harness := (true, "1927e61759dceb7f3c76e0789d3edb7d4d9e14da07104fac68fa0427e7476634"), looks := true }, kinds := [], alts := [], laidByText := true, laidKinds := [.handle], laidTests := true, laidLooks := .later }
def WholeAtomicCardSaid : Prop := Claim7.holds Tryz.pinned (.plain (OpenSpec.ofChange wholeAtomicSpec)) wholeAtomicCard

/-- THE TIED CARD OF 'haywardtop.WholeCopies'. -/
def wholeCopiesCard : Claim7 := { stood := { row := wholeCopiesRow, standIns := [], harness := (true, "1927e61759dceb7f3c76e0789d3edb7d4d9e14da07104fac68fa0427e7476634"), looks := true }, kinds := [], alts := [], laidByText := true, laidKinds := [.handle], laidTests := true, laidLooks := .later }
def WholeCopiesCardSaid : Prop := Claim7.holds Tryz.pinned (.plain (OpenSpec.ofChange wholeCopiesSpec)) wholeCopiesCard

/-- THE TIED CARD OF 'haywardtop.WholeApart'. -/
def wholeApartCard : Claim7 := { stood := { row := wholeApartRow, standIns := [], harness := (true, "1927e61759dceb7f3c76e0789d3edb7d4d9e14da07104fac68fa0427e7476634"), looks := true }, kinds := [], alts := [], laidByText := true, laidKinds := [.handle], laidTests := true, laidLooks := .later }
def WholeApartCardSaid : Prop := Claim7.holds Tryz.pinned (.plain (OpenSpec.ofChange wholeApartSpec)) wholeApartCard

/-- THE TIED CARD OF 'haywardtop.WholeBit'. -/
def wholeBitCard : Claim7 := { stood := { row := wholeBitRow, standIns := [], harness := (true, "1927e61759dceb7f3c76e0789d3edb7d4d9e14da07104fac68fa0427e7476634"), looks := true }, kinds := [], alts := [], laidByText := true, laidKinds := [.data, .handle], laidTests := true, laidLooks := .later }
def WholeBitCardSaid : Prop := Claim7.holds Tryz.pinned (.plain (OpenSpec.ofChange wholeBitSpec)) wholeBitCard

/-- THE TIED CARD OF 'haywardtop.WholeNames'. -/
def wholeNamesCard : Claim7 := { stood := { row := wholeNamesRow, standIns := [], harness := (true, "1927e61759dceb7f3c76e0789d3edb7d4d9e14da07104fac68fa0427e7476634"), looks := true }, kinds := [], alts := [], laidByText := true, laidKinds := [.handle], laidTests := true, laidLooks := .later }
def WholeNamesCardSaid : Prop := Claim7.holds Tryz.pinned (.plain (OpenSpec.ofChange wholeNamesSpec)) wholeNamesCard

/-- THE SECOND FORM's CARD OF 'haywardlaw20.ClusterDoes'. -/
def clusterDoesUptoCard : Claim7 := { stood := { row := clusterDoesUptoRow, standIns := [], harness := (true, "1927e61759dceb7f3c76e0789d3edb7d4d9e14da07104fac68fa0427e7476634"), looks := true }, kinds := [], alts := [], laidByText := true, laidKinds := [.handle], laidTests := true, laidLooks := .later }
def ClusterDoesUptoCardSaid : Prop := Claim7.holds Tryz.pinned (.plain (OpenSpec.upto clusterDoesSpec)) clusterDoesUptoCard

/-- THE SECOND FORM's CARD OF 'haywardlaw20.ClusterDrifts'. -/
def clusterDriftsUptoCard : Claim7 := { stood := { row := clusterDriftsUptoRow, standIns := [], harness := (true, "1927e61759dceb7f3c76e0789d3edb7d4d9e14da07104fac68fa0427e7476634"), looks := true }, kinds := [], alts := [], laidByText := true, laidKinds := [.handle], laidTests := true, laidLooks := .later }
def ClusterDriftsUptoCardSaid : Prop := Claim7.holds Tryz.pinned (.plain (OpenSpec.upto clusterDriftsSpec)) clusterDriftsUptoCard

/-- THE SECOND FORM's CARD OF 'haywardlaw20.ClusterDown'. -/
def clusterDownUptoCard : Claim7 := { stood := { row := clusterDownUptoRow, standIns := [], harness := (true, "1927e61759dceb7f3c76e0789d3edb7d4d9e14da07104fac68fa0427e7476634"), looks := true }, kinds := [], alts := [], laidByText := true, laidKinds := [.handle], laidTests := true, laidLooks := .later }
def ClusterDownUptoCardSaid : Prop := Claim7.holds Tryz.pinned (.plain (OpenSpec.upto clusterDownSpec)) clusterDownUptoCard

/-- THE SECOND FORM's CARD OF 'haywardlaw20.ClusterServes'. -/
def clusterServesUptoCard : Claim7 := { stood := { row := clusterServesUptoRow, standIns := [], harness := (true, "1927e61759dceb7f3c76e0789d3edb7d4d9e14da07104fac68fa0427e7476634"), looks := true }, kinds := [], alts := [], laidByText := true, laidKinds := [.handle], laidTests := true, laidLooks := .later }
def ClusterServesUptoCardSaid : Prop := Claim7.holds Tryz.pinned (.plain (OpenSpec.upto clusterServesSpec)) clusterServesUptoCard

/-- THE SECOND FORM's CARD OF 'haywardtop.WholeAtomic'. -/
def wholeAtomicUptoCard : Claim7 := { stood := { row := wholeAtomicUptoRow, standIns := [], harness := (true, "1927e61759dceb7f3c76e0789d3edb7d4d9e14da07104fac68fa0427e7476634"), looks := true }, kinds := [], alts := [], laidByText := true, laidKinds := [.handle], laidTests := true, laidLooks := .later }
def WholeAtomicUptoCardSaid : Prop := Claim7.holds Tryz.pinned (.plain (OpenSpec.upto wholeAtomicSpec)) wholeAtomicUptoCard

/-- THE SECOND FORM's CARD OF 'haywardtop.WholeCopies'. -/
def wholeCopiesUptoCard : Claim7 := { stood := { row := wholeCopiesUptoRow, standIns := [], harness := (true, "1927e61759dceb7f3c76e0789d3edb7d4d9e14da07104fac68fa0427e7476634"), looks := true }, kinds := [], alts := [], laidByText := true, laidKinds := [.handle], laidTests := true, laidLooks := .later }
def WholeCopiesUptoCardSaid : Prop := Claim7.holds Tryz.pinned (.plain (OpenSpec.upto wholeCopiesSpec)) wholeCopiesUptoCard

/-- THE SECOND FORM's CARD OF 'haywardtop.WholeApart'. -/
def wholeApartUptoCard : Claim7 := { stood := { row := wholeApartUptoRow, standIns := [], harness := (true, "1927e61759dceb7f3c76e0789d3edb7d4d9e14da07104fac68fa0427e7476634"), looks := true }, kinds := [], alts := [], laidByText := true, laidKinds := [.handle], laidTests := true, laidLooks := .later }
def WholeApartUptoCardSaid : Prop := Claim7.holds Tryz.pinned (.plain (OpenSpec.upto wholeApartSpec)) wholeApartUptoCard

/-- THE SECOND FORM's CARD OF 'haywardtop.WholeBit'. -/
def wholeBitUptoCard : Claim7 := { stood := { row := wholeBitUptoRow, standIns := [], harness := (true, "1927e61759dceb7f3c76e0789d3edb7d4d9e14da07104fac68fa0427e7476634"), looks := true }, kinds := [], alts := [], laidByText := true, laidKinds := [.data, .handle], laidTests := true, laidLooks := .later }
def WholeBitUptoCardSaid : Prop := Claim7.holds Tryz.pinned (.plain (OpenSpec.upto wholeBitSpec)) wholeBitUptoCard

/-- THE SECOND FORM's CARD OF 'haywardtop.WholeNames'. -/
def wholeNamesUptoCard : Claim7 := { stood := { row := wholeNamesUptoRow, standIns := [], harness := (true, "1927e61759dceb7f3c76e0789d3edb7d4d9e14da07104fac68fa0427e7476634"), looks := true }, kinds := [], alts := [], laidByText := true, laidKinds := [.handle], laidTests := true, laidLooks := .later }
def WholeNamesUptoCardSaid : Prop := Claim7.holds Tryz.pinned (.plain (OpenSpec.upto wholeNamesSpec)) wholeNamesUptoCard
end Rows
end Go.Proofs.YtljnkaodhfnbbaaGreatDoor
