/-
  DERIVED. GIVEN WITH THE SEED: THE CARDS: each row of YtpepoackmcohlaaGreatDoorRows.lean that lists a variable, with what it lists TIED to the program's text (the seventh form; the later family's looks); each row that meets fmt, with fmt's text TOLD by the authors' own Lean function (tested against real Go, not proved from fmt's source: count such statements apart). THE CARD IS WHAT COUNTS. Prove the row's statement (the work); the ties are given (YtpepoackmcohlaaGreatDoorTie.lean); close each card by the builder's one call (the guide's Derived/Test/ToyasCard.lean, 'card_holds'). Laid BY PROGRAM, IN A SANDBOX (cutbox-door.mjs). By AI agents, Wed Nov 11 2026. No macro, syntax, notation, axiom, sorry.
-/
import Derived.Test.YtpepoackmcohlaaGreatDoorRows
import GoSem.ClaimSeven
namespace Go.Proofs.YtpepoackmcohlaaGreatDoor
namespace Rows

/-- THE TIED CARD OF 'haywardlaw20.ClusterDoes'. -/
def clusterDoesCard : Claim7 := { stood := { row := clusterDoesRow, standIns := [], harness := (true, "2be62470711ee14bd317a746ba1cbacefc2d2a0086891d70c134134393794014"), looks := true }, kinds := [], alts := [], laidByText := true, laidKinds := [.handle], laidTests := true, laidLooks := .later }
def ClusterDoesCardSaid : Prop := Claim7.holds Tryz.pinned (.plain (OpenSpec.ofChange clusterDoesSpec)) clusterDoesCard

/-- THE TIED CARD OF 'haywardlaw20.ClusterServes'. -/
def clusterServesCard : Claim7 := { stood := { row := clusterServesRow, standIns := [], harness := (true, "2be62470711ee14bd317a746ba1cbacefc2d2a0086891d70c134134393794014"), looks := true }, kinds := [], alts := [], laidByText := true, laidKinds := [.handle], laidTests := true, laidLooks := .later }
def ClusterServesCardSaid : Prop := Claim7.holds Tryz.pinned (.plain (OpenSpec.ofChange clusterServesSpec)) clusterServesCard

/-- THE TIED CARD OF 'haywardtop.WholeAtomic'. -/
def wholeAtomicCard : Claim7 := { stood := { row := wholeAtomicRow, standIns := [], harness := (true, "2be62470711ee14bd317a746ba1cbacefc2d2a0086891d70c134134393794014"), looks := true }, kinds := [], alts := [], laidByText := true, laidKinds := [.handle], laidTests := true, laidLooks := .later }
def WholeAtomicCardSaid : Prop := Claim7.holds Tryz.pinned (.plain (OpenSpec.ofChange wholeAtomicSpec)) wholeAtomicCard

/-- THE SECOND FORM's CARD OF 'haywardlaw20.ClusterDoes'. -/
def clusterDoesUptoCard : Claim7 := { stood := { row := clusterDoesUptoRow, standIns := [], harness := (true, "2be62470711ee14bd317a746ba1cbacefc2d2a0086891d70c134134393794014"), looks := true }, kinds := [], alts := [], laidByText := true, laidKinds := [.handle], laidTests := true, laidLooks := .later }
def ClusterDoesUptoCardSaid : Prop := Claim7.holds Tryz.pinned (.plain (OpenSpec.upto clusterDoesSpec)) clusterDoesUptoCard

/-- THE SECOND FORM's CARD OF 'haywardlaw20.ClusterServes'. -/
def clusterServesUptoCard : Claim7 := { stood := { row := clusterServesUptoRow, standIns := [], harness := (true, "2be62470711ee14bd317a746ba1cbacefc2d2a0086891d70c134134393794014"), looks := true }, kinds := [], alts := [], laidByText := true, laidKinds := [.handle], laidTests := true, laidLooks := .later }
def ClusterServesUptoCardSaid : Prop := Claim7.holds Tryz.pinned (.plain (OpenSpec.upto clusterServesSpec)) clusterServesUptoCard

/-- THE SECOND FORM's CARD OF 'haywardtop.WholeAtomic'. -/
def wholeAtomicUptoCard : Claim7 := { stood := { row := wholeAtomicUptoRow, standIns := [], harness := (true, "2be62470711ee14bd317a746ba1cbacefc2d2a0086891d70c134134393794014"), looks := true }, kinds := [], alts := [], laidByText := true, laidKinds := [.handle], laidTests := true, laidLooks := .later }
def WholeAtomicUptoCardSaid : Prop := Claim7.holds Tryz.pinned (.plain (OpenSpec.upto wholeAtomicSpec)) wholeAtomicUptoCard
end Rows
end Go.Proofs.YtpepoackmcohlaaGreatDoor
