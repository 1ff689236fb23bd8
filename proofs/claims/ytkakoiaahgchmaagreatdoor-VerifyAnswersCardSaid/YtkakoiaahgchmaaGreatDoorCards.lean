/-
  DERIVED. GIVEN WITH THE SEED: THE CARDS: each row of YtkakoiaahgchmaaGreatDoorRows.lean that lists a variable, with what it lists TIED to the program's text (the seventh form; the later family's looks); each row that meets fmt, with fmt's text TOLD by the authors' own Lean function (tested against real Go, not proved from fmt's source: count such statements apart). THE CARD IS WHAT COUNTS. Prove the row's statement (the work); the ties are given (YtkakoiaahgchmaaGreatDoorTie.lean); close each card by the builder's one call (the guide's Derived/Test/ToyasCard.lean, 'card_holds'). Laid BY PROGRAM, IN A SANDBOX (cutbox-door.mjs). By AI agents, Wed Nov 11 2026. No macro, syntax, notation, axiom, sorry.
-/
import Derived.Test.YtkakoiaahgchmaaGreatDoorRows
import GoSem.ClaimSeven
namespace Go.Proofs.YtkakoiaahgchmaaGreatDoor
namespace Rows

/-- THE TIED CARD OF 'planchetlaw22.VerifyHeads'. -/
def verifyHeadsCard : Claim7 := { stood := { row := verifyHeadsRow, standIns := [], harness := (true, "7698d4ac8401ed2869bd99d7060d6bb4065aaa1e357e87ec75d2631cad30927b"), looks := false }, kinds := [], alts := [], laidByText := true, laidKinds := [.data, .data], laidTests := true, laidLooks := .later }
def VerifyHeadsCardSaid : Prop := Claim7.holds Tryz.pinned (.plain (OpenSpec.ofChange verifyHeadsSpec)) verifyHeadsCard

/-- THE TIED CARD OF 'planchetlaw22.VerifyAnswers'. -/
def verifyAnswersCard : Claim7 := { stood := { row := verifyAnswersRow, standIns := [], harness := (true, "7698d4ac8401ed2869bd99d7060d6bb4065aaa1e357e87ec75d2631cad30927b"), looks := false }, kinds := [], alts := [], laidByText := true, laidKinds := [.data, .data], laidTests := true, laidLooks := .later }
def VerifyAnswersCardSaid : Prop := Claim7.holds Tryz.pinned (.plain (OpenSpec.ofChange verifyAnswersSpec)) verifyAnswersCard

/-- THE SECOND FORM's CARD OF 'planchetlaw22.VerifyHeads'. -/
def verifyHeadsUptoCard : Claim7 := { stood := { row := verifyHeadsUptoRow, standIns := [], harness := (true, "7698d4ac8401ed2869bd99d7060d6bb4065aaa1e357e87ec75d2631cad30927b"), looks := false }, kinds := [], alts := [], laidByText := true, laidKinds := [.data, .data], laidTests := true, laidLooks := .later }
def VerifyHeadsUptoCardSaid : Prop := Claim7.holds Tryz.pinned (.plain (OpenSpec.upto verifyHeadsSpec)) verifyHeadsUptoCard

/-- THE SECOND FORM's CARD OF 'planchetlaw22.VerifyAnswers'. -/
def verifyAnswersUptoCard : Claim7 := { stood := { row := verifyAnswersUptoRow, standIns := [], harness := (true, "7698d4ac8401ed2869bd99d7060d6bb4065aaa1e357e87ec75d2631cad30927b"), looks := false }, kinds := [], alts := [], laidByText := true, laidKinds := [.data, .data], laidTests := true, laidLooks := .later }
def VerifyAnswersUptoCardSaid : Prop := Claim7.holds Tryz.pinned (.plain (OpenSpec.upto verifyAnswersSpec)) verifyAnswersUptoCard
end Rows
end Go.Proofs.YtkakoiaahgchmaaGreatDoor
