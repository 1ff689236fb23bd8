/-
  DERIVED. GIVEN WITH THE SEED: THE CARDS: each row of YtpinamdgbijjlaaGreatDoorRows.lean that lists a variable, with what it lists TIED to the program's text (the seventh form; the later family's looks); each row that meets fmt, with fmt's text TOLD by the authors' own Lean function (tested against real Go, not proved from fmt's source: count such statements apart). THE CARD IS WHAT COUNTS. Prove the row's statement (the work); the ties are given (YtpinamdgbijjlaaGreatDoorTie.lean); close each card by the builder's one call (the guide's Derived/Test/ToyasCard.lean, 'card_holds'). Laid BY PROGRAM, IN A SANDBOX (cutbox-door.mjs). By AI agents, Wed Nov 11 2026. No macro, syntax, notation, axiom, sorry.
-/
import Derived.Test.YtpinamdgbijjlaaGreatDoorRows
import GoSem.ClaimSeven
namespace Go.Proofs.YtpinamdgbijjlaaGreatDoor
namespace Rows

/-- THE TIED CARD OF 'planchetlaw21.DirectoryKeys'. -/
def directoryKeysCard : Claim7 := { stood := { row := directoryKeysRow, standIns := [], harness := (true, "ac6490778bbc929a1b0efa3e354386eb60afebf4bc02781af08edfaad43a5ff8"), looks := false }, kinds := [], alts := [], laidByText := true, laidKinds := [.data, .data], laidTests := true, laidLooks := .later }
def DirectoryKeysCardSaid : Prop := Claim7.holds Tryz.pinned (.plain (OpenSpec.ofChange directoryKeysSpec)) directoryKeysCard

/-- THE SECOND FORM's CARD OF 'planchetlaw21.DirectoryKeys'. -/
def directoryKeysUptoCard : Claim7 := { stood := { row := directoryKeysUptoRow, standIns := [], harness := (true, "ac6490778bbc929a1b0efa3e354386eb60afebf4bc02781af08edfaad43a5ff8"), looks := false }, kinds := [], alts := [], laidByText := true, laidKinds := [.data, .data], laidTests := true, laidLooks := .later }
def DirectoryKeysUptoCardSaid : Prop := Claim7.holds Tryz.pinned (.plain (OpenSpec.upto directoryKeysSpec)) directoryKeysUptoCard
end Rows
end Go.Proofs.YtpinamdgbijjlaaGreatDoor
