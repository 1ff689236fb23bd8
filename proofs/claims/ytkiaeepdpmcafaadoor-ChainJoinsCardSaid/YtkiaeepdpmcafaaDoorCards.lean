/-
  DERIVED. GIVEN WITH THE SEED: THE CARDS: each row of YtkiaeepdpmcafaaDoorRows.lean that lists a variable, with what it lists TIED to the program's text (the seventh form; the later family's looks); each row that meets fmt, with fmt's text TOLD by the authors' own Lean function (tested against real Go, not proved from fmt's source: count such statements apart). THE CARD IS WHAT COUNTS. Prove the row's statement (the work); the ties are given (YtkiaeepdpmcafaaDoorTie.lean); close each card by the builder's one call (the guide's Derived/Test/ToyasCard.lean, 'card_holds'). Laid BY PROGRAM, IN A SANDBOX (cutbox-door.mjs). By AI agents, Wed Nov 11 2026. No macro, syntax, notation, axiom, sorry.
-/
import Derived.Test.YtkiaeepdpmcafaaDoorRows
import GoSem.ClaimSeven
namespace Go.Proofs.YtkiaeepdpmcafaaDoor
namespace Rows

/-- THE TIED CARD OF 'planchetlaw01.ShaSums'. -/
def shaSumsCard : Claim7 := { stood := { row := shaSumsRow, standIns := [], harness := (true, "dcd9bc4b9cdbc8b4050e4ced7aa4ae2acb6720869895b9499e61431c42bb3d58"), looks := false }, kinds := [], alts := [], laidByText := true, laidKinds := [.data, .data], laidTests := true, laidLooks := .later }
def ShaSumsCardSaid : Prop := Claim7.holds Tryd.pinned (.plain (OpenSpec.ofChange shaSumsSpec)) shaSumsCard

/-- THE TIED CARD OF 'planchetlaw01.ShaWrites'. -/
def shaWritesCard : Claim7 := { stood := { row := shaWritesRow, standIns := [], harness := (true, "dcd9bc4b9cdbc8b4050e4ced7aa4ae2acb6720869895b9499e61431c42bb3d58"), looks := false }, kinds := [], alts := [], laidByText := true, laidKinds := [.data, .data], laidTests := true, laidLooks := .later }
def ShaWritesCardSaid : Prop := Claim7.holds Tryd.pinned (.plain (OpenSpec.ofChange shaWritesSpec)) shaWritesCard

/-- THE TIED CARD OF 'planchetlaw01.ShaParts'. -/
def shaPartsCard : Claim7 := { stood := { row := shaPartsRow, standIns := [], harness := (true, "dcd9bc4b9cdbc8b4050e4ced7aa4ae2acb6720869895b9499e61431c42bb3d58"), looks := false }, kinds := [], alts := [], laidByText := true, laidKinds := [.data, .data], laidTests := true, laidLooks := .later }
def ShaPartsCardSaid : Prop := Claim7.holds Tryd.pinned (.plain (OpenSpec.ofChange shaPartsSpec)) shaPartsCard

/-- THE TIED CARD OF 'planchetlaw02.MacCodes'. -/
def macCodesCard : Claim7 := { stood := { row := macCodesRow, standIns := [], harness := (true, "dcd9bc4b9cdbc8b4050e4ced7aa4ae2acb6720869895b9499e61431c42bb3d58"), looks := false }, kinds := [], alts := [], laidByText := true, laidKinds := [.data, .data], laidTests := true, laidLooks := .later }
def MacCodesCardSaid : Prop := Claim7.holds Tryd.pinned (.plain (OpenSpec.ofChange macCodesSpec)) macCodesCard

/-- THE TIED CARD OF 'planchetlaw02.MacKeys'. -/
def macKeysCard : Claim7 := { stood := { row := macKeysRow, standIns := [], harness := (true, "dcd9bc4b9cdbc8b4050e4ced7aa4ae2acb6720869895b9499e61431c42bb3d58"), looks := false }, kinds := [], alts := [], laidByText := true, laidKinds := [.data, .data], laidTests := true, laidLooks := .later }
def MacKeysCardSaid : Prop := Claim7.holds Tryd.pinned (.plain (OpenSpec.ofChange macKeysSpec)) macKeysCard

/-- THE TIED CARD OF 'planchetlaw05.KeyedSums'. -/
def keyedSumsCard : Claim7 := { stood := { row := keyedSumsRow, standIns := [], harness := (true, "dcd9bc4b9cdbc8b4050e4ced7aa4ae2acb6720869895b9499e61431c42bb3d58"), looks := false }, kinds := [], alts := [], laidByText := true, laidKinds := [.data, .data], laidTests := true, laidLooks := .later }
def KeyedSumsCardSaid : Prop := Claim7.holds Tryd.pinned (.plain (OpenSpec.ofChange keyedSumsSpec)) keyedSumsCard

/-- THE TIED CARD OF 'planchetlaw05.KeyedMessages'. -/
def keyedMessagesCard : Claim7 := { stood := { row := keyedMessagesRow, standIns := [], harness := (true, "dcd9bc4b9cdbc8b4050e4ced7aa4ae2acb6720869895b9499e61431c42bb3d58"), looks := false }, kinds := [], alts := [], laidByText := true, laidKinds := [.data, .data], laidTests := true, laidLooks := .later }
def KeyedMessagesCardSaid : Prop := Claim7.holds Tryd.pinned (.plain (OpenSpec.ofChange keyedMessagesSpec)) keyedMessagesCard

/-- THE TIED CARD OF 'planchetlaw07.ChainRuns'. -/
def chainRunsCard : Claim7 := { stood := { row := chainRunsRow, standIns := [], harness := (true, "dcd9bc4b9cdbc8b4050e4ced7aa4ae2acb6720869895b9499e61431c42bb3d58"), looks := false }, kinds := [], alts := [], laidByText := true, laidKinds := [.data, .data], laidTests := true, laidLooks := .later }
def ChainRunsCardSaid : Prop := Claim7.holds Tryd.pinned (.plain (OpenSpec.ofChange chainRunsSpec)) chainRunsCard

/-- THE TIED CARD OF 'planchetlaw07.ChainJoins'. -/
def chainJoinsCard : Claim7 := { stood := { row := chainJoinsRow, standIns := [], harness := (true, "dcd9bc4b9cdbc8b4050e4ced7aa4ae2acb6720869895b9499e61431c42bb3d58"), looks := false }, kinds := [], alts := [], laidByText := true, laidKinds := [.data, .data], laidTests := true, laidLooks := .later }
def ChainJoinsCardSaid : Prop := Claim7.holds Tryd.pinned (.plain (OpenSpec.ofChange chainJoinsSpec)) chainJoinsCard

/-- THE SECOND FORM's CARD OF 'planchetlaw01.ShaSums'. -/
def shaSumsUptoCard : Claim7 := { stood := { row := shaSumsUptoRow, standIns := [], harness := (true, "dcd9bc4b9cdbc8b4050e4ced7aa4ae2acb6720869895b9499e61431c42bb3d58"), looks := false }, kinds := [], alts := [], laidByText := true, laidKinds := [.data, .data], laidTests := true, laidLooks := .later }
def ShaSumsUptoCardSaid : Prop := Claim7.holds Tryd.pinned (.plain (OpenSpec.upto shaSumsSpec)) shaSumsUptoCard

/-- THE SECOND FORM's CARD OF 'planchetlaw01.ShaWrites'. -/
def shaWritesUptoCard : Claim7 := { stood := { row := shaWritesUptoRow, standIns := [], harness := (true, "dcd9bc4b9cdbc8b4050e4ced7aa4ae2acb6720869895b9499e61431c42bb3d58"), looks := false }, kinds := [], alts := [], laidByText := true, laidKinds := [.data, .data], laidTests := true, laidLooks := .later }
def ShaWritesUptoCardSaid : Prop := Claim7.holds Tryd.pinned (.plain (OpenSpec.upto shaWritesSpec)) shaWritesUptoCard

/-- THE SECOND FORM's CARD OF 'planchetlaw01.ShaParts'. -/
def shaPartsUptoCard : Claim7 := { stood := { row := shaPartsUptoRow, standIns := [], harness := (true, "dcd9bc4b9cdbc8b4050e4ced7aa4ae2acb6720869895b9499e61431c42bb3d58"), looks := false }, kinds := [], alts := [], laidByText := true, laidKinds := [.data, .data], laidTests := true, laidLooks := .later }
def ShaPartsUptoCardSaid : Prop := Claim7.holds Tryd.pinned (.plain (OpenSpec.upto shaPartsSpec)) shaPartsUptoCard

/-- THE SECOND FORM's CARD OF 'planchetlaw02.MacCodes'. -/
def macCodesUptoCard : Claim7 := { stood := { row := macCodesUptoRow, standIns := [], harness := (true, "dcd9bc4b9cdbc8b4050e4ced7aa4ae2acb6720869895b9499e61431c42bb3d58"), looks := false }, kinds := [], alts := [], laidByText := true, laidKinds := [.data, .data], laidTests := true, laidLooks := .later }
def MacCodesUptoCardSaid : Prop := Claim7.holds Tryd.pinned (.plain (OpenSpec.upto macCodesSpec)) macCodesUptoCard

/-- THE SECOND FORM's CARD OF 'planchetlaw02.MacKeys'. -/
def macKeysUptoCard : Claim7 := { stood := { row := macKeysUptoRow, standIns := [], harness := (true, "dcd9bc4b9cdbc8b4050e4ced7aa4ae2acb6720869895b9499e61431c42bb3d58"), looks := false }, kinds := [], alts := [], laidByText := true, laidKinds := [.data, .data], laidTests := true, laidLooks := .later }
def MacKeysUptoCardSaid : Prop := Claim7.holds Tryd.pinned (.plain (OpenSpec.upto macKeysSpec)) macKeysUptoCard

/-- THE SECOND FORM's CARD OF 'planchetlaw05.KeyedSums'. -/
def keyedSumsUptoCard : Claim7 := { stood := { row := keyedSumsUptoRow, standIns := [], harness := (true, "dcd9bc4b9cdbc8b4050e4ced7aa4ae2acb6720869895b9499e61431c42bb3d58"), looks := false }, kinds := [], alts := [], laidByText := true, laidKinds := [.data, .data], laidTests := true, laidLooks := .later }
def KeyedSumsUptoCardSaid : Prop := Claim7.holds Tryd.pinned (.plain (OpenSpec.upto keyedSumsSpec)) keyedSumsUptoCard

/-- THE SECOND FORM's CARD OF 'planchetlaw05.KeyedMessages'. -/
def keyedMessagesUptoCard : Claim7 := { stood := { row := keyedMessagesUptoRow, standIns := [], harness := (true, "dcd9bc4b9cdbc8b4050e4ced7aa4ae2acb6720869895b9499e61431c42bb3d58"), looks := false }, kinds := [], alts := [], laidByText := true, laidKinds := [.data, .data], laidTests := true, laidLooks := .later }
def KeyedMessagesUptoCardSaid : Prop := Claim7.holds Tryd.pinned (.plain (OpenSpec.upto keyedMessagesSpec)) keyedMessagesUptoCard

/-- THE SECOND FORM's CARD OF 'planchetlaw07.ChainRuns'. -/
def chainRunsUptoCard : Claim7 := { stood := { row := chainRunsUptoRow, standIns := [], harness := (true, "dcd9bc4b9cdbc8b4050e4ced7aa4ae2acb6720869895b9499e61431c42bb3d58"), looks := false }, kinds := [], alts := [], laidByText := true, laidKinds := [.data, .data], laidTests := true, laidLooks := .later }
def ChainRunsUptoCardSaid : Prop := Claim7.holds Tryd.pinned (.plain (OpenSpec.upto chainRunsSpec)) chainRunsUptoCard

/-- THE SECOND FORM's CARD OF 'planchetlaw07.ChainJoins'. -/
def chainJoinsUptoCard : Claim7 := { stood := { row := chainJoinsUptoRow, standIns := [], harness := (true, "dcd9bc4b9cdbc8b4050e4ced7aa4ae2acb6720869895b9499e61431c42bb3d58"), looks := false }, kinds := [], alts := [], laidByText := true, laidKinds := [.data, .data], laidTests := true, laidLooks := .later }
def ChainJoinsUptoCardSaid : Prop := Claim7.holds Tryd.pinned (.plain (OpenSpec.upto chainJoinsSpec)) chainJoinsUptoCard
end Rows
end Go.Proofs.YtkiaeepdpmcafaaDoor
