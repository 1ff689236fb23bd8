/-
  DERIVED. GIVEN WITH THE SEED: THE CARDS: each row of YtjkfbeillmeomaaDoorRows.lean that lists a variable, with what it lists TIED to the program's text (the seventh form; the later family's looks); each row that meets fmt, with fmt's text TOLD by the authors' own Lean function (tested against real Go, not proved from fmt's source: count such statements apart). THE CARD IS WHAT COUNTS. Prove the row's statement (the work); the ties are given (YtjkfbeillmeomaaDoorTie.lean); close each card by the builder's one call (the guide's Derived/Test/ToyasCard.lean, 'card_holds'). Laid BY PROGRAM, IN A SANDBOX (cutbox-door.mjs). By AI agents, Wed Nov 11 2026. No macro, syntax, notation, axiom, sorry.
-/
import Derived.Test.YtjkfbeillmeomaaDoorRows
import GoSem.ClaimSeven
namespace Go.Proofs.YtjkfbeillmeomaaDoor
namespace Rows

/-- THE TIED CARD OF 'planchetlaw08.WotsKeys'. -/
def wotsKeysCard : Claim7 := { stood := { row := wotsKeysRow, standIns := [], harness := (true, "cea7f37d59a92ad4346f7f52ae80d677f64d02d31a675d68b31f36c8d884316e"), looks := false }, kinds := [], alts := [], laidByText := true, laidKinds := [.data, .data], laidTests := true, laidLooks := .later }
def WotsKeysCardSaid : Prop := Claim7.holds Tryd.pinned (.plain (OpenSpec.ofChange wotsKeysSpec)) wotsKeysCard

/-- THE TIED CARD OF 'planchetlaw08.WotsSigns'. -/
def wotsSignsCard : Claim7 := { stood := { row := wotsSignsRow, standIns := [], harness := (true, "cea7f37d59a92ad4346f7f52ae80d677f64d02d31a675d68b31f36c8d884316e"), looks := false }, kinds := [], alts := [], laidByText := true, laidKinds := [.data, .data], laidTests := true, laidLooks := .later }
def WotsSignsCardSaid : Prop := Claim7.holds Tryd.pinned (.plain (OpenSpec.ofChange wotsSignsSpec)) wotsSignsCard

/-- THE TIED CARD OF 'planchetlaw08.WotsLeads'. -/
def wotsLeadsCard : Claim7 := { stood := { row := wotsLeadsRow, standIns := [], harness := (true, "cea7f37d59a92ad4346f7f52ae80d677f64d02d31a675d68b31f36c8d884316e"), looks := false }, kinds := [], alts := [], laidByText := true, laidKinds := [.data, .data], laidTests := true, laidLooks := .later }
def WotsLeadsCardSaid : Prop := Claim7.holds Tryd.pinned (.plain (OpenSpec.ofChange wotsLeadsSpec)) wotsLeadsCard

/-- THE TIED CARD OF 'planchetlaw08.WotsMeets'. -/
def wotsMeetsCard : Claim7 := { stood := { row := wotsMeetsRow, standIns := [], harness := (true, "cea7f37d59a92ad4346f7f52ae80d677f64d02d31a675d68b31f36c8d884316e"), looks := false }, kinds := [], alts := [], laidByText := true, laidKinds := [.data, .data], laidTests := true, laidLooks := .later }
def WotsMeetsCardSaid : Prop := Claim7.holds Tryd.pinned (.plain (OpenSpec.ofChange wotsMeetsSpec)) wotsMeetsCard

/-- THE TIED CARD OF 'planchetlaw09.LtreeMakes'. -/
def ltreeMakesCard : Claim7 := { stood := { row := ltreeMakesRow, standIns := [], harness := (true, "cea7f37d59a92ad4346f7f52ae80d677f64d02d31a675d68b31f36c8d884316e"), looks := false }, kinds := [], alts := [], laidByText := true, laidKinds := [.data, .data], laidTests := true, laidLooks := .later }
def LtreeMakesCardSaid : Prop := Claim7.holds Tryd.pinned (.plain (OpenSpec.ofChange ltreeMakesSpec)) ltreeMakesCard

/-- THE TIED CARD OF 'planchetlaw09.LtreeFew'. -/
def ltreeFewCard : Claim7 := { stood := { row := ltreeFewRow, standIns := [], harness := (true, "cea7f37d59a92ad4346f7f52ae80d677f64d02d31a675d68b31f36c8d884316e"), looks := false }, kinds := [], alts := [], laidByText := true, laidKinds := [.data, .data], laidTests := true, laidLooks := .later }
def LtreeFewCardSaid : Prop := Claim7.holds Tryd.pinned (.plain (OpenSpec.ofChange ltreeFewSpec)) ltreeFewCard

/-- THE TIED CARD OF 'planchetlaw10.TreeBuilds'. -/
def treeBuildsCard : Claim7 := { stood := { row := treeBuildsRow, standIns := [], harness := (true, "cea7f37d59a92ad4346f7f52ae80d677f64d02d31a675d68b31f36c8d884316e"), looks := false }, kinds := [], alts := [], laidByText := true, laidKinds := [.data, .data], laidTests := true, laidLooks := .later }
def TreeBuildsCardSaid : Prop := Claim7.holds Tryd.pinned (.plain (OpenSpec.ofChange treeBuildsSpec)) treeBuildsCard

/-- THE TIED CARD OF 'planchetlaw10.TreeClimbs'. -/
def treeClimbsCard : Claim7 := { stood := { row := treeClimbsRow, standIns := [], harness := (true, "cea7f37d59a92ad4346f7f52ae80d677f64d02d31a675d68b31f36c8d884316e"), looks := false }, kinds := [], alts := [], laidByText := true, laidKinds := [.data, .data], laidTests := true, laidLooks := .later }
def TreeClimbsCardSaid : Prop := Claim7.holds Tryd.pinned (.plain (OpenSpec.ofChange treeClimbsSpec)) treeClimbsCard

/-- THE TIED CARD OF 'planchetlaw10.TreeMeets'. -/
def treeMeetsCard : Claim7 := { stood := { row := treeMeetsRow, standIns := [], harness := (true, "cea7f37d59a92ad4346f7f52ae80d677f64d02d31a675d68b31f36c8d884316e"), looks := false }, kinds := [], alts := [], laidByText := true, laidKinds := [.data, .data], laidTests := true, laidLooks := .later }
def TreeMeetsCardSaid : Prop := Claim7.holds Tryd.pinned (.plain (OpenSpec.ofChange treeMeetsSpec)) treeMeetsCard

/-- THE TIED CARD OF 'planchetlaw11.HyperKeys'. -/
def hyperKeysCard : Claim7 := { stood := { row := hyperKeysRow, standIns := [], harness := (true, "cea7f37d59a92ad4346f7f52ae80d677f64d02d31a675d68b31f36c8d884316e"), looks := false }, kinds := [], alts := [], laidByText := true, laidKinds := [.data, .data], laidTests := true, laidLooks := .later }
def HyperKeysCardSaid : Prop := Claim7.holds Tryd.pinned (.plain (OpenSpec.ofChange hyperKeysSpec)) hyperKeysCard

/-- THE TIED CARD OF 'planchetlaw11.HyperVerifies'. -/
def hyperVerifiesCard : Claim7 := { stood := { row := hyperVerifiesRow, standIns := [], harness := (true, "cea7f37d59a92ad4346f7f52ae80d677f64d02d31a675d68b31f36c8d884316e"), looks := false }, kinds := [], alts := [], laidByText := true, laidKinds := [.data, .data], laidTests := true, laidLooks := .later }
def HyperVerifiesCardSaid : Prop := Claim7.holds Tryd.pinned (.plain (OpenSpec.ofChange hyperVerifiesSpec)) hyperVerifiesCard

/-- THE TIED CARD OF 'planchetlaw11.HyperMeets'. -/
def hyperMeetsCard : Claim7 := { stood := { row := hyperMeetsRow, standIns := [], harness := (true, "cea7f37d59a92ad4346f7f52ae80d677f64d02d31a675d68b31f36c8d884316e"), looks := false }, kinds := [], alts := [], laidByText := true, laidKinds := [.data, .data], laidTests := true, laidLooks := .later }
def HyperMeetsCardSaid : Prop := Claim7.holds Tryd.pinned (.plain (OpenSpec.ofChange hyperMeetsSpec)) hyperMeetsCard

/-- THE TIED CARD OF 'planchetlaw16.CommitIndices'. -/
def commitIndicesCard : Claim7 := { stood := { row := commitIndicesRow, standIns := [], harness := (true, "cea7f37d59a92ad4346f7f52ae80d677f64d02d31a675d68b31f36c8d884316e"), looks := false }, kinds := [], alts := [], laidByText := true, laidKinds := [.data, .data], laidTests := true, laidLooks := .later }
def CommitIndicesCardSaid : Prop := Claim7.holds Tryd.pinned (.plain (OpenSpec.ofChange commitIndicesSpec)) commitIndicesCard

/-- THE TIED CARD OF 'planchetlaw16.CommitValues'. -/
def commitValuesCard : Claim7 := { stood := { row := commitValuesRow, standIns := [], harness := (true, "cea7f37d59a92ad4346f7f52ae80d677f64d02d31a675d68b31f36c8d884316e"), looks := false }, kinds := [], alts := [], laidByText := true, laidKinds := [.data, .data], laidTests := true, laidLooks := .later }
def CommitValuesCardSaid : Prop := Claim7.holds Tryd.pinned (.plain (OpenSpec.ofChange commitValuesSpec)) commitValuesCard

/-- THE SECOND FORM's CARD OF 'planchetlaw08.WotsKeys'. -/
def wotsKeysUptoCard : Claim7 := { stood := { row := wotsKeysUptoRow, standIns := [], harness := (true, "cea7f37d59a92ad4346f7f52ae80d677f64d02d31a675d68b31f36c8d884316e"), looks := false }, kinds := [], alts := [], laidByText := true, laidKinds := [.data, .data], laidTests := true, laidLooks := .later }
def WotsKeysUptoCardSaid : Prop := Claim7.holds Tryd.pinned (.plain (OpenSpec.upto wotsKeysSpec)) wotsKeysUptoCard

/-- THE SECOND FORM's CARD OF 'planchetlaw08.WotsSigns'. -/
def wotsSignsUptoCard : Claim7 := { stood := { row := wotsSignsUptoRow, standIns := [], harness := (true, "cea7f37d59a92ad4346f7f52ae80d677f64d02d31a675d68b31f36c8d884316e"), looks := false }, kinds := [], alts := [], laidByText := true, laidKinds := [.data, .data], laidTests := true, laidLooks := .later }
def WotsSignsUptoCardSaid : Prop := Claim7.holds Tryd.pinned (.plain (OpenSpec.upto wotsSignsSpec)) wotsSignsUptoCard

/-- THE SECOND FORM's CARD OF 'planchetlaw08.WotsLeads'. -/
def wotsLeadsUptoCard : Claim7 := { stood := { row := wotsLeadsUptoRow, standIns := [], harness := (true, "cea7f37d59a92ad4346f7f52ae80d677f64d02d31a675d68b31f36c8d884316e"), looks := false }, kinds := [], alts := [], laidByText := true, laidKinds := [.data, .data], laidTests := true, laidLooks := .later }
def WotsLeadsUptoCardSaid : Prop := Claim7.holds Tryd.pinned (.plain (OpenSpec.upto wotsLeadsSpec)) wotsLeadsUptoCard

/-- THE SECOND FORM's CARD OF 'planchetlaw08.WotsMeets'. -/
def wotsMeetsUptoCard : Claim7 := { stood := { row := wotsMeetsUptoRow, standIns := [], harness := (true, "cea7f37d59a92ad4346f7f52ae80d677f64d02d31a675d68b31f36c8d884316e"), looks := false }, kinds := [], alts := [], laidByText := true, laidKinds := [.data, .data], laidTests := true, laidLooks := .later }
def WotsMeetsUptoCardSaid : Prop := Claim7.holds Tryd.pinned (.plain (OpenSpec.upto wotsMeetsSpec)) wotsMeetsUptoCard

/-- THE SECOND FORM's CARD OF 'planchetlaw09.LtreeMakes'. -/
def ltreeMakesUptoCard : Claim7 := { stood := { row := ltreeMakesUptoRow, standIns := [], harness := (true, "cea7f37d59a92ad4346f7f52ae80d677f64d02d31a675d68b31f36c8d884316e"), looks := false }, kinds := [], alts := [], laidByText := true, laidKinds := [.data, .data], laidTests := true, laidLooks := .later }
def LtreeMakesUptoCardSaid : Prop := Claim7.holds Tryd.pinned (.plain (OpenSpec.upto ltreeMakesSpec)) ltreeMakesUptoCard

/-- THE SECOND FORM's CARD OF 'planchetlaw09.LtreeFew'. -/
def ltreeFewUptoCard : Claim7 := { stood := { row := ltreeFewUptoRow, standIns := [], harness := (true, "cea7f37d59a92ad4346f7f52ae80d677f64d02d31a675d68b31f36c8d884316e"), looks := false }, kinds := [], alts := [], laidByText := true, laidKinds := [.data, .data], laidTests := true, laidLooks := .later }
def LtreeFewUptoCardSaid : Prop := Claim7.holds Tryd.pinned (.plain (OpenSpec.upto ltreeFewSpec)) ltreeFewUptoCard

/-- THE SECOND FORM's CARD OF 'planchetlaw10.TreeBuilds'. -/
def treeBuildsUptoCard : Claim7 := { stood := { row := treeBuildsUptoRow, standIns := [], harness := (true, "cea7f37d59a92ad4346f7f52ae80d677f64d02d31a675d68b31f36c8d884316e"), looks := false }, kinds := [], alts := [], laidByText := true, laidKinds := [.data, .data], laidTests := true, laidLooks := .later }
def TreeBuildsUptoCardSaid : Prop := Claim7.holds Tryd.pinned (.plain (OpenSpec.upto treeBuildsSpec)) treeBuildsUptoCard

/-- THE SECOND FORM's CARD OF 'planchetlaw10.TreeClimbs'. -/
def treeClimbsUptoCard : Claim7 := { stood := { row := treeClimbsUptoRow, standIns := [], harness := (true, "cea7f37d59a92ad4346f7f52ae80d677f64d02d31a675d68b31f36c8d884316e"), looks := false }, kinds := [], alts := [], laidByText := true, laidKinds := [.data, .data], laidTests := true, laidLooks := .later }
def TreeClimbsUptoCardSaid : Prop := Claim7.holds Tryd.pinned (.plain (OpenSpec.upto treeClimbsSpec)) treeClimbsUptoCard

/-- THE SECOND FORM's CARD OF 'planchetlaw10.TreeMeets'. -/
def treeMeetsUptoCard : Claim7 := { stood := { row := treeMeetsUptoRow, standIns := [], harness := (true, "cea7f37d59a92ad4346f7f52ae80d677f64d02d31a675d68b31f36c8d884316e"), looks := false }, kinds := [], alts := [], laidByText := true, laidKinds := [.data, .data], laidTests := true, laidLooks := .later }
def TreeMeetsUptoCardSaid : Prop := Claim7.holds Tryd.pinned (.plain (OpenSpec.upto treeMeetsSpec)) treeMeetsUptoCard

/-- THE SECOND FORM's CARD OF 'planchetlaw11.HyperKeys'. -/
def hyperKeysUptoCard : Claim7 := { stood := { row := hyperKeysUptoRow, standIns := [], harness := (true, "cea7f37d59a92ad4346f7f52ae80d677f64d02d31a675d68b31f36c8d884316e"), looks := false }, kinds := [], alts := [], laidByText := true, laidKinds := [.data, .data], laidTests := true, laidLooks := .later }
def HyperKeysUptoCardSaid : Prop := Claim7.holds Tryd.pinned (.plain (OpenSpec.upto hyperKeysSpec)) hyperKeysUptoCard

/-- THE SECOND FORM's CARD OF 'planchetlaw11.HyperVerifies'. -/
def hyperVerifiesUptoCard : Claim7 := { stood := { row := hyperVerifiesUptoRow, standIns := [], harness := (true, "cea7f37d59a92ad4346f7f52ae80d677f64d02d31a675d68b31f36c8d884316e"), looks := false }, kinds := [], alts := [], laidByText := true, laidKinds := [.data, .data], laidTests := true, laidLooks := .later }
def HyperVerifiesUptoCardSaid : Prop := Claim7.holds Tryd.pinned (.plain (OpenSpec.upto hyperVerifiesSpec)) hyperVerifiesUptoCard

/-- THE SECOND FORM's CARD OF 'planchetlaw11.HyperMeets'. -/
def hyperMeetsUptoCard : Claim7 := { stood := { row := hyperMeetsUptoRow, standIns := [], harness := (true, "cea7f37d59a92ad4346f7f52ae80d677f64d02d31a675d68b31f36c8d884316e"), looks := false }, kinds := [], alts := [], laidByText := true, laidKinds := [.data, .data], laidTests := true, laidLooks := .later }
def HyperMeetsUptoCardSaid : Prop := Claim7.holds Tryd.pinned (.plain (OpenSpec.upto hyperMeetsSpec)) hyperMeetsUptoCard

/-- THE SECOND FORM's CARD OF 'planchetlaw16.CommitIndices'. -/
def commitIndicesUptoCard : Claim7 := { stood := { row := commitIndicesUptoRow, standIns := [], harness := (true, "cea7f37d59a92ad4346f7f52ae80d677f64d02d31a675d68b31f36c8d884316e"), looks := false }, kinds := [], alts := [], laidByText := true, laidKinds := [.data, .data], laidTests := true, laidLooks := .later }
def CommitIndicesUptoCardSaid : Prop := Claim7.holds Tryd.pinned (.plain (OpenSpec.upto commitIndicesSpec)) commitIndicesUptoCard

/-- THE SECOND FORM's CARD OF 'planchetlaw16.CommitValues'. -/
def commitValuesUptoCard : Claim7 := { stood := { row := commitValuesUptoRow, standIns := [], harness := (true, "cea7f37d59a92ad4346f7f52ae80d677f64d02d31a675d68b31f36c8d884316e"), looks := false }, kinds := [], alts := [], laidByText := true, laidKinds := [.data, .data], laidTests := true, laidLooks := .later }
def CommitValuesUptoCardSaid : Prop := Claim7.holds Tryd.pinned (.plain (OpenSpec.upto commitValuesSpec)) commitValuesUptoCard
end Rows
end Go.Proofs.YtjkfbeillmeomaaDoor
