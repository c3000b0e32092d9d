/-
  DERIVED. GIVEN WITH THE SEED: THE CARDS: each row of YtejibonnjbhcjaaDoorRows.lean that lists a variable, with what it lists TIED to the program's text (the seventh form; the later family's looks); each row that meets fmt, with fmt's text TOLD by the authors' own Lean function (tested against real Go, not proved from fmt's source: count such statements apart). THE CARD IS WHAT COUNTS. Prove the row's statement (the work); the ties are given (YtejibonnjbhcjaaDoorTie.lean); close each card by the builder's one call (the guide's Derived/Test/ToyasCard.lean, 'card_holds'). Laid BY PROGRAM, IN A SANDBOX (cutbox-door.mjs). By AI agents, Wed Nov 11 2026. No macro, syntax, notation, axiom, sorry.
-/
import Derived.Test.YtejibonnjbhcjaaDoorRows
import GoSem.ClaimSeven
namespace Go.Proofs.YtejibonnjbhcjaaDoor
namespace Rows

/-- THE TIED CARD OF 'haywardlaw06.FireCodes'. -/
def fireCodesCard : Claim7 := { stood := { row := fireCodesRow, standIns := [], harness := (true, "a24c28f92394b8abfced3330da9f8b3931b622155e07e608a1ba0dca2080af46"), looks := false }, kinds := [], alts := [], laidByText := true, laidKinds := [.data], laidTests := true, laidLooks := .later }
def FireCodesCardSaid : Prop := Claim7.holds Tryd.pinned (.plain (OpenSpec.ofChange fireCodesSpec)) fireCodesCard

/-- THE TIED CARD OF 'haywardlaw06.FireSafe'. -/
def fireSafeCard : Claim7 := { stood := { row := fireSafeRow, standIns := [], harness := (true, "a24c28f92394b8abfced3330da9f8b3931b622155e07e608a1ba0dca2080af46"), looks := false }, kinds := [], alts := [], laidByText := true, laidKinds := [.data], laidTests := true, laidLooks := .later }
def FireSafeCardSaid : Prop := Claim7.holds Tryd.pinned (.plain (OpenSpec.ofChange fireSafeSpec)) fireSafeCard

/-- THE SECOND FORM's CARD OF 'haywardlaw06.FireCodes'. -/
def fireCodesUptoCard : Claim7 := { stood := { row := fireCodesUptoRow, standIns := [], harness := (true, "a24c28f92394b8abfced3330da9f8b3931b622155e07e608a1ba0dca2080af46"), looks := false }, kinds := [], alts := [], laidByText := true, laidKinds := [.data], laidTests := true, laidLooks := .later }
def FireCodesUptoCardSaid : Prop := Claim7.holds Tryd.pinned (.plain (OpenSpec.upto fireCodesSpec)) fireCodesUptoCard

/-- THE SECOND FORM's CARD OF 'haywardlaw06.FireSafe'. -/
def fireSafeUptoCard : Claim7 := { stood := { row := fireSafeUptoRow, standIns := [], harness := (true, "a24c28f92394b8abfced3330da9f8b3931b622155e07e608a1ba0dca2080af46"), looks := false }, kinds := [], alts := [], laidByText := true, laidKinds := [.data], laidTests := true, laidLooks := .later }
def FireSafeUptoCardSaid : Prop := Claim7.holds Tryd.pinned (.plain (OpenSpec.upto fireSafeSpec)) fireSafeUptoCard
end Rows
end Go.Proofs.YtejibonnjbhcjaaDoor
