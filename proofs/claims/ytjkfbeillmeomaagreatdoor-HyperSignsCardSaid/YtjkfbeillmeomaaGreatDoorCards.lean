/-
  DERIVED. GIVEN WITH THE SEED: THE CARDS: each row of YtjkfbeillmeomaaGreatDoorRows.lean that lists a variable, with what it lists TIED to the program's text (the seventh form; the later family's looks); each row that meets fmt, with fmt's text TOLD by the authors' own Lean function (tested against real Go, not proved from fmt's source: count such statements apart). THE CARD IS WHAT COUNTS. Prove the row's statement (the work); the ties are given (YtjkfbeillmeomaaGreatDoorTie.lean); close each card by the builder's one call (the guide's Derived/Test/ToyasCard.lean, 'card_holds'). Laid BY PROGRAM, IN A SANDBOX (cutbox-door.mjs). By AI agents, Wed Nov 11 2026. No macro, syntax, notation, axiom, sorry.
-/
import Derived.Test.YtjkfbeillmeomaaGreatDoorRows
import GoSem.ClaimSeven
namespace Go.Proofs.YtjkfbeillmeomaaGreatDoor
namespace Rows

/-- THE TIED CARD OF 'planchetlaw11.HyperSigns'. -/
def hyperSignsCard : Claim7 := { stood := { row := hyperSignsRow, standIns := [], harness := (true, "02081e22e8aa0deb730074bacae86f11a2e7929093d792c20ee2f0e086c92a4a"), looks := false }, kinds := [], alts := [], laidByText := true, laidKinds := [.data, .data], laidTests := true, laidLooks := .later }
def HyperSignsCardSaid : Prop := Claim7.holds Tryz.pinned (.plain (OpenSpec.ofChange hyperSignsSpec)) hyperSignsCard

/-- THE SECOND FORM's CARD OF 'planchetlaw11.HyperSigns'. -/
def hyperSignsUptoCard : Claim7 := { stood := { row := hyperSignsUptoRow, standIns := [], harness := (true, "02081e22e8aa0deb730074bacae86f11a2e7929093d792c20ee2f0e086c92a4a"), looks := false }, kinds := [], alts := [], laidByText := true, laidKinds := [.data, .data], laidTests := true, laidLooks := .later }
def HyperSignsUptoCardSaid : Prop := Claim7.holds Tryz.pinned (.plain (OpenSpec.upto hyperSignsSpec)) hyperSignsUptoCard
end Rows
end Go.Proofs.YtjkfbeillmeomaaGreatDoor
