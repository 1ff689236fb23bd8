/-
  DERIVED. GIVEN WITH THE SEED: THE CARDS: each row of YthaicocfbmpnmaaDoorRows.lean that lists a variable, with what it lists TIED to the program's text (the seventh form; the later family's looks); each row that meets fmt, with fmt's text TOLD by the authors' own Lean function (tested against real Go, not proved from fmt's source: count such statements apart). THE CARD IS WHAT COUNTS. Prove the row's statement (the work); the ties are given (YthaicocfbmpnmaaDoorTie.lean); close each card by the builder's one call (the guide's Derived/Test/ToyasCard.lean, 'card_holds'). Laid BY PROGRAM, IN A SANDBOX (cutbox-door.mjs). By AI agents, Wed Nov 11 2026. No macro, syntax, notation, axiom, sorry.
-/
import Derived.Test.YthaicocfbmpnmaaDoorRows
import GoSem.ClaimSeven
namespace Go.Proofs.YthaicocfbmpnmaaDoor
namespace Rows

/-- THE TIED CARD OF 'planchetlaw17.PtreeNodes'. -/
def ptreeNodesCard : Claim7 := { stood := { row := ptreeNodesRow, standIns := [], harness := (true, "5baca2cb02af66bda0e41110824c78fd8bf850e94957888c8c7ca3d1dd429cba"), looks := false }, kinds := [], alts := [], laidByText := true, laidKinds := [.data, .data], laidTests := true, laidLooks := .later }
def PtreeNodesCardSaid : Prop := Claim7.holds Tryd.pinned (.plain (OpenSpec.ofChange ptreeNodesSpec)) ptreeNodesCard

/-- THE TIED CARD OF 'planchetlaw17.PtreeRoots'. -/
def ptreeRootsCard : Claim7 := { stood := { row := ptreeRootsRow, standIns := [], harness := (true, "5baca2cb02af66bda0e41110824c78fd8bf850e94957888c8c7ca3d1dd429cba"), looks := false }, kinds := [], alts := [], laidByText := true, laidKinds := [.data, .data], laidTests := true, laidLooks := .later }
def PtreeRootsCardSaid : Prop := Claim7.holds Tryd.pinned (.plain (OpenSpec.ofChange ptreeRootsSpec)) ptreeRootsCard

/-- THE TIED CARD OF 'planchetlaw17.PtreeProves'. -/
def ptreeProvesCard : Claim7 := { stood := { row := ptreeProvesRow, standIns := [], harness := (true, "5baca2cb02af66bda0e41110824c78fd8bf850e94957888c8c7ca3d1dd429cba"), looks := false }, kinds := [], alts := [], laidByText := true, laidKinds := [.data, .data], laidTests := true, laidLooks := .later }
def PtreeProvesCardSaid : Prop := Claim7.holds Tryd.pinned (.plain (OpenSpec.ofChange ptreeProvesSpec)) ptreeProvesCard

/-- THE TIED CARD OF 'planchetlaw17.PtreeTurns'. -/
def ptreeTurnsCard : Claim7 := { stood := { row := ptreeTurnsRow, standIns := [], harness := (true, "5baca2cb02af66bda0e41110824c78fd8bf850e94957888c8c7ca3d1dd429cba"), looks := false }, kinds := [], alts := [], laidByText := true, laidKinds := [.data, .data], laidTests := true, laidLooks := .later }
def PtreeTurnsCardSaid : Prop := Claim7.holds Tryd.pinned (.plain (OpenSpec.ofChange ptreeTurnsSpec)) ptreeTurnsCard

/-- THE TIED CARD OF 'planchetlaw18.ProofClimbs'. -/
def proofClimbsCard : Claim7 := { stood := { row := proofClimbsRow, standIns := [], harness := (true, "5baca2cb02af66bda0e41110824c78fd8bf850e94957888c8c7ca3d1dd429cba"), looks := false }, kinds := [], alts := [], laidByText := true, laidKinds := [.data, .data], laidTests := true, laidLooks := .later }
def ProofClimbsCardSaid : Prop := Claim7.holds Tryd.pinned (.plain (OpenSpec.ofChange proofClimbsSpec)) proofClimbsCard

/-- THE TIED CARD OF 'planchetlaw18.ProofShows'. -/
def proofShowsCard : Claim7 := { stood := { row := proofShowsRow, standIns := [], harness := (true, "5baca2cb02af66bda0e41110824c78fd8bf850e94957888c8c7ca3d1dd429cba"), looks := false }, kinds := [], alts := [], laidByText := true, laidKinds := [.data, .data], laidTests := true, laidLooks := .later }
def ProofShowsCardSaid : Prop := Claim7.holds Tryd.pinned (.plain (OpenSpec.ofChange proofShowsSpec)) proofShowsCard

/-- THE TIED CARD OF 'planchetlaw19.LogRoots'. -/
def logRootsCard : Claim7 := { stood := { row := logRootsRow, standIns := [], harness := (true, "5baca2cb02af66bda0e41110824c78fd8bf850e94957888c8c7ca3d1dd429cba"), looks := false }, kinds := [], alts := [], laidByText := true, laidKinds := [.data, .data], laidTests := true, laidLooks := .later }
def LogRootsCardSaid : Prop := Claim7.holds Tryd.pinned (.plain (OpenSpec.ofChange logRootsSpec)) logRootsCard

/-- THE TIED CARD OF 'planchetlaw19.LogChecks'. -/
def logChecksCard : Claim7 := { stood := { row := logChecksRow, standIns := [], harness := (true, "5baca2cb02af66bda0e41110824c78fd8bf850e94957888c8c7ca3d1dd429cba"), looks := false }, kinds := [], alts := [], laidByText := true, laidKinds := [.data, .data], laidTests := true, laidLooks := .later }
def LogChecksCardSaid : Prop := Claim7.holds Tryd.pinned (.plain (OpenSpec.ofChange logChecksSpec)) logChecksCard

/-- THE TIED CARD OF 'planchetlaw19.LogShows'. -/
def logShowsCard : Claim7 := { stood := { row := logShowsRow, standIns := [], harness := (true, "5baca2cb02af66bda0e41110824c78fd8bf850e94957888c8c7ca3d1dd429cba"), looks := false }, kinds := [], alts := [], laidByText := true, laidKinds := [.data, .data], laidTests := true, laidLooks := .later }
def LogShowsCardSaid : Prop := Claim7.holds Tryd.pinned (.plain (OpenSpec.ofChange logShowsSpec)) logShowsCard

/-- THE SECOND FORM's CARD OF 'planchetlaw17.PtreeNodes'. -/
def ptreeNodesUptoCard : Claim7 := { stood := { row := ptreeNodesUptoRow, standIns := [], harness := (true, "5baca2cb02af66bda0e41110824c78fd8bf850e94957888c8c7ca3d1dd429cba"), looks := false }, kinds := [], alts := [], laidByText := true, laidKinds := [.data, .data], laidTests := true, laidLooks := .later }
def PtreeNodesUptoCardSaid : Prop := Claim7.holds Tryd.pinned (.plain (OpenSpec.upto ptreeNodesSpec)) ptreeNodesUptoCard

/-- THE SECOND FORM's CARD OF 'planchetlaw17.PtreeRoots'. -/
def ptreeRootsUptoCard : Claim7 := { stood := { row := ptreeRootsUptoRow, standIns := [], harness := (true, "5baca2cb02af66bda0e41110824c78fd8bf850e94957888c8c7ca3d1dd429cba"), looks := false }, kinds := [], alts := [], laidByText := true, laidKinds := [.data, .data], laidTests := true, laidLooks := .later }
def PtreeRootsUptoCardSaid : Prop := Claim7.holds Tryd.pinned (.plain (OpenSpec.upto ptreeRootsSpec)) ptreeRootsUptoCard

/-- THE SECOND FORM's CARD OF 'planchetlaw17.PtreeProves'. -/
def ptreeProvesUptoCard : Claim7 := { stood := { row := ptreeProvesUptoRow, standIns := [], harness := (true, "5baca2cb02af66bda0e41110824c78fd8bf850e94957888c8c7ca3d1dd429cba"), looks := false }, kinds := [], alts := [], laidByText := true, laidKinds := [.data, .data], laidTests := true, laidLooks := .later }
def PtreeProvesUptoCardSaid : Prop := Claim7.holds Tryd.pinned (.plain (OpenSpec.upto ptreeProvesSpec)) ptreeProvesUptoCard

/-- THE SECOND FORM's CARD OF 'planchetlaw17.PtreeTurns'. -/
def ptreeTurnsUptoCard : Claim7 := { stood := { row := ptreeTurnsUptoRow, standIns := [], harness := (true, "5baca2cb02af66bda0e41110824c78fd8bf850e94957888c8c7ca3d1dd429cba"), looks := false }, kinds := [], alts := [], laidByText := true, laidKinds := [.data, .data], laidTests := true, laidLooks := .later }
def PtreeTurnsUptoCardSaid : Prop := Claim7.holds Tryd.pinned (.plain (OpenSpec.upto ptreeTurnsSpec)) ptreeTurnsUptoCard

/-- THE SECOND FORM's CARD OF 'planchetlaw18.ProofClimbs'. -/
def proofClimbsUptoCard : Claim7 := { stood := { row := proofClimbsUptoRow, standIns := [], harness := (true, "5baca2cb02af66bda0e41110824c78fd8bf850e94957888c8c7ca3d1dd429cba"), looks := false }, kinds := [], alts := [], laidByText := true, laidKinds := [.data, .data], laidTests := true, laidLooks := .later }
def ProofClimbsUptoCardSaid : Prop := Claim7.holds Tryd.pinned (.plain (OpenSpec.upto proofClimbsSpec)) proofClimbsUptoCard

/-- THE SECOND FORM's CARD OF 'planchetlaw18.ProofShows'. -/
def proofShowsUptoCard : Claim7 := { stood := { row := proofShowsUptoRow, standIns := [], harness := (true, "5baca2cb02af66bda0e41110824c78fd8bf850e94957888c8c7ca3d1dd429cba"), looks := false }, kinds := [], alts := [], laidByText := true, laidKinds := [.data, .data], laidTests := true, laidLooks := .later }
def ProofShowsUptoCardSaid : Prop := Claim7.holds Tryd.pinned (.plain (OpenSpec.upto proofShowsSpec)) proofShowsUptoCard

/-- THE SECOND FORM's CARD OF 'planchetlaw19.LogRoots'. -/
def logRootsUptoCard : Claim7 := { stood := { row := logRootsUptoRow, standIns := [], harness := (true, "5baca2cb02af66bda0e41110824c78fd8bf850e94957888c8c7ca3d1dd429cba"), looks := false }, kinds := [], alts := [], laidByText := true, laidKinds := [.data, .data], laidTests := true, laidLooks := .later }
def LogRootsUptoCardSaid : Prop := Claim7.holds Tryd.pinned (.plain (OpenSpec.upto logRootsSpec)) logRootsUptoCard

/-- THE SECOND FORM's CARD OF 'planchetlaw19.LogChecks'. -/
def logChecksUptoCard : Claim7 := { stood := { row := logChecksUptoRow, standIns := [], harness := (true, "5baca2cb02af66bda0e41110824c78fd8bf850e94957888c8c7ca3d1dd429cba"), looks := false }, kinds := [], alts := [], laidByText := true, laidKinds := [.data, .data], laidTests := true, laidLooks := .later }
def LogChecksUptoCardSaid : Prop := Claim7.holds Tryd.pinned (.plain (OpenSpec.upto logChecksSpec)) logChecksUptoCard

/-- THE SECOND FORM's CARD OF 'planchetlaw19.LogShows'. -/
def logShowsUptoCard : Claim7 := { stood := { row := logShowsUptoRow, standIns := [], harness := (true, "5baca2cb02af66bda0e41110824c78fd8bf850e94957888c8c7ca3d1dd429cba"), looks := false }, kinds := [], alts := [], laidByText := true, laidKinds := [.data, .data], laidTests := true, laidLooks := .later }
def LogShowsUptoCardSaid : Prop := Claim7.holds Tryd.pinned (.plain (OpenSpec.upto logShowsSpec)) logShowsUptoCard
end Rows
end Go.Proofs.YthaicocfbmpnmaaDoor
