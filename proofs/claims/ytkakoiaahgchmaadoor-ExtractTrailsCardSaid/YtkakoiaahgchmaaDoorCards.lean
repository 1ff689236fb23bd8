/-
  DERIVED. GIVEN WITH THE SEED: THE CARDS: each row of YtkakoiaahgchmaaDoorRows.lean that lists a variable, with what it lists TIED to the program's text (the seventh form; the later family's looks); each row that meets fmt, with fmt's text TOLD by the authors' own Lean function (tested against real Go, not proved from fmt's source: count such statements apart). THE CARD IS WHAT COUNTS. Prove the row's statement (the work); the ties are given (YtkakoiaahgchmaaDoorTie.lean); close each card by the builder's one call (the guide's Derived/Test/ToyasCard.lean, 'card_holds'). Laid BY PROGRAM, IN A SANDBOX (cutbox-door.mjs). By AI agents, Wed Nov 11 2026. No macro, syntax, notation, axiom, sorry.
-/
import Derived.Test.YtkakoiaahgchmaaDoorRows
import GoSem.ClaimSeven
namespace Go.Proofs.YtkakoiaahgchmaaDoor
namespace Rows

/-- THE TIED CARD OF 'planchetlaw23.ExtractTrails'. -/
def extractTrailsCard : Claim7 := { stood := { row := extractTrailsRow, standIns := [], harness := (true, "a698608777a6a5edbc972eca449d8f8d60225a6274aaa38b1e2965f270138964"), looks := false }, kinds := [], alts := [], laidByText := true, laidKinds := [.data, .data], laidTests := true, laidLooks := .later }
def ExtractTrailsCardSaid : Prop := Claim7.holds Tryd.pinned (.plain (OpenSpec.ofChange extractTrailsSpec)) extractTrailsCard

/-- THE TIED CARD OF 'planchetlaw23.ExtractParts'. -/
def extractPartsCard : Claim7 := { stood := { row := extractPartsRow, standIns := [], harness := (true, "a698608777a6a5edbc972eca449d8f8d60225a6274aaa38b1e2965f270138964"), looks := false }, kinds := [], alts := [], laidByText := true, laidKinds := [.data, .data], laidTests := true, laidLooks := .later }
def ExtractPartsCardSaid : Prop := Claim7.holds Tryd.pinned (.plain (OpenSpec.ofChange extractPartsSpec)) extractPartsCard

/-- THE TIED CARD OF 'planchetlaw23.ExtractTrees'. -/
def extractTreesCard : Claim7 := { stood := { row := extractTreesRow, standIns := [], harness := (true, "a698608777a6a5edbc972eca449d8f8d60225a6274aaa38b1e2965f270138964"), looks := false }, kinds := [], alts := [], laidByText := true, laidKinds := [.data, .data], laidTests := true, laidLooks := .later }
def ExtractTreesCardSaid : Prop := Claim7.holds Tryd.pinned (.plain (OpenSpec.ofChange extractTreesSpec)) extractTreesCard

/-- THE TIED CARD OF 'planchetlaw23.ExtractValues'. -/
def extractValuesCard : Claim7 := { stood := { row := extractValuesRow, standIns := [], harness := (true, "a698608777a6a5edbc972eca449d8f8d60225a6274aaa38b1e2965f270138964"), looks := false }, kinds := [], alts := [], laidByText := true, laidKinds := [.data, .data], laidTests := true, laidLooks := .later }
def ExtractValuesCardSaid : Prop := Claim7.holds Tryd.pinned (.plain (OpenSpec.ofChange extractValuesSpec)) extractValuesCard

/-- THE TIED CARD OF 'planchetlaw23.ExtractTexts'. -/
def extractTextsCard : Claim7 := { stood := { row := extractTextsRow, standIns := [], harness := (true, "a698608777a6a5edbc972eca449d8f8d60225a6274aaa38b1e2965f270138964"), looks := false }, kinds := [], alts := [], laidByText := true, laidKinds := [.data, .data], laidTests := true, laidLooks := .later }
def ExtractTextsCardSaid : Prop := Claim7.holds Tryd.pinned (.plain (OpenSpec.ofChange extractTextsSpec)) extractTextsCard

/-- THE TIED CARD OF 'planchetlaw23.ExtractLogs'. -/
def extractLogsCard : Claim7 := { stood := { row := extractLogsRow, standIns := [], harness := (true, "a698608777a6a5edbc972eca449d8f8d60225a6274aaa38b1e2965f270138964"), looks := false }, kinds := [], alts := [], laidByText := true, laidKinds := [.data, .data], laidTests := true, laidLooks := .later }
def ExtractLogsCardSaid : Prop := Claim7.holds Tryd.pinned (.plain (OpenSpec.ofChange extractLogsSpec)) extractLogsCard

/-- THE SECOND FORM's CARD OF 'planchetlaw23.ExtractTrails'. -/
def extractTrailsUptoCard : Claim7 := { stood := { row := extractTrailsUptoRow, standIns := [], harness := (true, "a698608777a6a5edbc972eca449d8f8d60225a6274aaa38b1e2965f270138964"), looks := false }, kinds := [], alts := [], laidByText := true, laidKinds := [.data, .data], laidTests := true, laidLooks := .later }
def ExtractTrailsUptoCardSaid : Prop := Claim7.holds Tryd.pinned (.plain (OpenSpec.upto extractTrailsSpec)) extractTrailsUptoCard

/-- THE SECOND FORM's CARD OF 'planchetlaw23.ExtractParts'. -/
def extractPartsUptoCard : Claim7 := { stood := { row := extractPartsUptoRow, standIns := [], harness := (true, "a698608777a6a5edbc972eca449d8f8d60225a6274aaa38b1e2965f270138964"), looks := false }, kinds := [], alts := [], laidByText := true, laidKinds := [.data, .data], laidTests := true, laidLooks := .later }
def ExtractPartsUptoCardSaid : Prop := Claim7.holds Tryd.pinned (.plain (OpenSpec.upto extractPartsSpec)) extractPartsUptoCard

/-- THE SECOND FORM's CARD OF 'planchetlaw23.ExtractTrees'. -/
def extractTreesUptoCard : Claim7 := { stood := { row := extractTreesUptoRow, standIns := [], harness := (true, "a698608777a6a5edbc972eca449d8f8d60225a6274aaa38b1e2965f270138964"), looks := false }, kinds := [], alts := [], laidByText := true, laidKinds := [.data, .data], laidTests := true, laidLooks := .later }
def ExtractTreesUptoCardSaid : Prop := Claim7.holds Tryd.pinned (.plain (OpenSpec.upto extractTreesSpec)) extractTreesUptoCard

/-- THE SECOND FORM's CARD OF 'planchetlaw23.ExtractValues'. -/
def extractValuesUptoCard : Claim7 := { stood := { row := extractValuesUptoRow, standIns := [], harness := (true, "a698608777a6a5edbc972eca449d8f8d60225a6274aaa38b1e2965f270138964"), looks := false }, kinds := [], alts := [], laidByText := true, laidKinds := [.data, .data], laidTests := true, laidLooks := .later }
def ExtractValuesUptoCardSaid : Prop := Claim7.holds Tryd.pinned (.plain (OpenSpec.upto extractValuesSpec)) extractValuesUptoCard

/-- THE SECOND FORM's CARD OF 'planchetlaw23.ExtractTexts'. -/
def extractTextsUptoCard : Claim7 := { stood := { row := extractTextsUptoRow, standIns := [], harness := (true, "a698608777a6a5edbc972eca449d8f8d60225a6274aaa38b1e2965f270138964"), looks := false }, kinds := [], alts := [], laidByText := true, laidKinds := [.data, .data], laidTests := true, laidLooks := .later }
def ExtractTextsUptoCardSaid : Prop := Claim7.holds Tryd.pinned (.plain (OpenSpec.upto extractTextsSpec)) extractTextsUptoCard

/-- THE SECOND FORM's CARD OF 'planchetlaw23.ExtractLogs'. -/
def extractLogsUptoCard : Claim7 := { stood := { row := extractLogsUptoRow, standIns := [], harness := (true, "a698608777a6a5edbc972eca449d8f8d60225a6274aaa38b1e2965f270138964"), looks := false }, kinds := [], alts := [], laidByText := true, laidKinds := [.data, .data], laidTests := true, laidLooks := .later }
def ExtractLogsUptoCardSaid : Prop := Claim7.holds Tryd.pinned (.plain (OpenSpec.upto extractLogsSpec)) extractLogsUptoCard
end Rows
end Go.Proofs.YtkakoiaahgchmaaDoor
