/-
  NARROWER THAN 'FOR EVERY INPUT', by the rows' own cells (each row's printed sentence says how): PtreeNodes: laid · PtreeRoots: laid · PtreeProves: laid · PtreeTurns: laid · ProofClimbs: laid · ProofShows: laid · LogRoots: laid · LogChecks: laid · LogShows: laid.
  DERIVED. THE GIVEN ROWS OF THIS SEAT. 9 by the template 'for every input the law returns true; each argument reads behind the call as it read before'; 0 by the template 'total and deterministic' (their statements: YthaicocfbmpnmaaDoorTotals.lean).
  GIVEN WITH THE SEED: the statements are not yours to turn. If you find one false, say at which input.
  Laid BY PROGRAM, IN A SANDBOX (cutbox-rows.mjs): the forced cells as the released guide's own fill.sh prints them over the translation 25364490f7b3cd08… (all of the seat's roots in one cut). By AI agents, Wed Nov 11 2026. No macro, syntax, notation, axiom, sorry.
-/
import Derived.Test.YthaicocfbmpnmaaDoorChecked
import GoSem.Claim
import GoSem.ClaimJoined
import GoSem.ClaimMapViews
import Derived.JoinedTies
import Derived.KernelRfl
namespace Go.Proofs.YthaicocfbmpnmaaDoor
/- THE CELL 'sum', in the pinned program and in every row, IS THE sha256 OF THE DUMP (.gsa) THAT YthaicocfbmpnmaaDoorProg.lean LOADS. Nothing in Lean hashes anything: it is a label: what it is worth is what the hold of that sum in a sandbox is worth. -/
noncomputable def Tryd.pinned : Pinned := { name := "ythaicocfbmpnmaadoor", sum := "25364490f7b3cd08dd9decb45dc97fbb2b659c72de98f70f3c6eaedd70d2fdf2", checked := Tryd.checked }
namespace Rows
def none {H : Type} : Left H := { results := [], args := [] }

/- WHAT THE LISTED PACKAGE-LEVEL VARIABLES READ AS WHEN THE CALL BEGINS. Each datum BY PROGRAM (the guide's laid-datum.mjs) off the statement by which the dump's own 'gosem.cut.vars' lays the variable. In a bare row this is a premise. The card (YthaicocfbmpnmaaDoorCards.lean) ties it to the program's text. -/
def laid_planchet_sha_start {H : Type} : DataW H := .agg [.lit (.int .u32 1779033703), .lit (.int .u32 3144134277), .lit (.int .u32 1013904242), .lit (.int .u32 2773480762), .lit (.int .u32 1359893119), .lit (.int .u32 2600822924), .lit (.int .u32 528734635), .lit (.int .u32 1541459225)]
def laid_planchet_sha_constants {H : Type} : DataW H := .agg [.lit (.int .u32 1116352408), .lit (.int .u32 1899447441), .lit (.int .u32 3049323471), .lit (.int .u32 3921009573), .lit (.int .u32 961987163), .lit (.int .u32 1508970993), .lit (.int .u32 2453635748), .lit (.int .u32 2870763221), .lit (.int .u32 3624381080), .lit (.int .u32 310598401), .lit (.int .u32 607225278), .lit (.int .u32 1426881987), .lit (.int .u32 1925078388), .lit (.int .u32 2162078206), .lit (.int .u32 2614888103), .lit (.int .u32 3248222580), .lit (.int .u32 3835390401), .lit (.int .u32 4022224774), .lit (.int .u32 264347078), .lit (.int .u32 604807628), .lit (.int .u32 770255983), .lit (.int .u32 1249150122), .lit (.int .u32 1555081692), .lit (.int .u32 1996064986), .lit (.int .u32 2554220882), .lit (.int .u32 2821834349), .lit (.int .u32 2952996808), .lit (.int .u32 3210313671), .lit (.int .u32 3336571891), .lit (.int .u32 3584528711), .lit (.int .u32 113926993), .lit (.int .u32 338241895), .lit (.int .u32 666307205), .lit (.int .u32 773529912), .lit (.int .u32 1294757372), .lit (.int .u32 1396182291), .lit (.int .u32 1695183700), .lit (.int .u32 1986661051), .lit (.int .u32 2177026350), .lit (.int .u32 2456956037), .lit (.int .u32 2730485921), .lit (.int .u32 2820302411), .lit (.int .u32 3259730800), .lit (.int .u32 3345764771), .lit (.int .u32 3516065817), .lit (.int .u32 3600352804), .lit (.int .u32 4094571909), .lit (.int .u32 275423344), .lit (.int .u32 430227734), .lit (.int .u32 506948616), .lit (.int .u32 659060556), .lit (.int .u32 883997877), .lit (.int .u32 958139571), .lit (.int .u32 1322822218), .lit (.int .u32 1537002063), .lit (.int .u32 1747873779), .lit (.int .u32 1955562222), .lit (.int .u32 2024104815), .lit (.int .u32 2227730452), .lit (.int .u32 2361852424), .lit (.int .u32 2428436474), .lit (.int .u32 2756734187), .lit (.int .u32 3204031479), .lit (.int .u32 3329325298)]

/-- 'planchetlaw17.PtreeNodes': WHATEVER THE INPUT: true; the input reads as it did. -/
def ptreeNodesSpec : ChangeSpec := { name := "ptreeNodes", fn := fun _ => fun
  | [d1, d2] => { results := [.lit (.bool true)], args := [d1, d2] }
  | _ => none }
def ptreeNodesRow : OpenClaim := { program := "ythaicocfbmpnmaadoor", sum := "25364490f7b3cd08dd9decb45dc97fbb2b659c72de98f70f3c6eaedd70d2fdf2", func := "planchet/planchetlaw17.PtreeNodes", spec := "ptreeNodes", inPlace := ["internal/bytealg.Compare"], unfollowed := true, recurses := true, named := ["planchet/sha.start", "planchet/sha.constants"], plainKeys := false, apart := false, laid := [("planchet/sha.start", laid_planchet_sha_start), ("planchet/sha.constants", laid_planchet_sha_constants)] }
def PtreeNodesSaid : Prop := ptreeNodesRow.holds Tryd.pinned (OpenSpec.ofChange ptreeNodesSpec)

/-- ITS FALSE NEIGHBOUR: 'it returns false'. Refute it at one input. -/
def ptreeNodesWrong : ChangeSpec := { name := "ptreeNodes", fn := fun _ => fun
  | [d1, d2] => { results := [.lit (.bool false)], args := [d1, d2] }
  | _ => none }
def PtreeNodesWrongFalsely : Prop := ptreeNodesRow.holds Tryd.pinned (OpenSpec.ofChange ptreeNodesWrong)

/-- 'planchetlaw17.PtreeRoots': WHATEVER THE INPUT: true; the input reads as it did. -/
def ptreeRootsSpec : ChangeSpec := { name := "ptreeRoots", fn := fun _ => fun
  | [d] => { results := [.lit (.bool true)], args := [d] }
  | _ => none }
def ptreeRootsRow : OpenClaim := { program := "ythaicocfbmpnmaadoor", sum := "25364490f7b3cd08dd9decb45dc97fbb2b659c72de98f70f3c6eaedd70d2fdf2", func := "planchet/planchetlaw17.PtreeRoots", spec := "ptreeRoots", inPlace := ["internal/bytealg.Compare"], unfollowed := true, recurses := true, named := ["planchet/sha.start", "planchet/sha.constants"], plainKeys := false, apart := false, laid := [("planchet/sha.start", laid_planchet_sha_start), ("planchet/sha.constants", laid_planchet_sha_constants)] }
def PtreeRootsSaid : Prop := ptreeRootsRow.holds Tryd.pinned (OpenSpec.ofChange ptreeRootsSpec)

/-- ITS FALSE NEIGHBOUR: 'it returns false'. Refute it at one input. -/
def ptreeRootsWrong : ChangeSpec := { name := "ptreeRoots", fn := fun _ => fun
  | [d] => { results := [.lit (.bool false)], args := [d] }
  | _ => none }
def PtreeRootsWrongFalsely : Prop := ptreeRootsRow.holds Tryd.pinned (OpenSpec.ofChange ptreeRootsWrong)

/-- 'planchetlaw17.PtreeProves': WHATEVER THE INPUT: true; the input reads as it did. -/
def ptreeProvesSpec : ChangeSpec := { name := "ptreeProves", fn := fun _ => fun
  | [d1, d2] => { results := [.lit (.bool true)], args := [d1, d2] }
  | _ => none }
def ptreeProvesRow : OpenClaim := { program := "ythaicocfbmpnmaadoor", sum := "25364490f7b3cd08dd9decb45dc97fbb2b659c72de98f70f3c6eaedd70d2fdf2", func := "planchet/planchetlaw17.PtreeProves", spec := "ptreeProves", inPlace := ["internal/bytealg.Compare"], unfollowed := true, recurses := true, named := ["planchet/sha.start", "planchet/sha.constants"], plainKeys := false, apart := false, laid := [("planchet/sha.start", laid_planchet_sha_start), ("planchet/sha.constants", laid_planchet_sha_constants)] }
def PtreeProvesSaid : Prop := ptreeProvesRow.holds Tryd.pinned (OpenSpec.ofChange ptreeProvesSpec)

/-- ITS FALSE NEIGHBOUR: 'it returns false'. Refute it at one input. -/
def ptreeProvesWrong : ChangeSpec := { name := "ptreeProves", fn := fun _ => fun
  | [d1, d2] => { results := [.lit (.bool false)], args := [d1, d2] }
  | _ => none }
def PtreeProvesWrongFalsely : Prop := ptreeProvesRow.holds Tryd.pinned (OpenSpec.ofChange ptreeProvesWrong)

/-- 'planchetlaw17.PtreeTurns': WHATEVER THE INPUT: true; the input reads as it did. -/
def ptreeTurnsSpec : ChangeSpec := { name := "ptreeTurns", fn := fun _ => fun
  | [d1, d2, d3] => { results := [.lit (.bool true)], args := [d1, d2, d3] }
  | _ => none }
def ptreeTurnsRow : OpenClaim := { program := "ythaicocfbmpnmaadoor", sum := "25364490f7b3cd08dd9decb45dc97fbb2b659c72de98f70f3c6eaedd70d2fdf2", func := "planchet/planchetlaw17.PtreeTurns", spec := "ptreeTurns", inPlace := ["internal/bytealg.Compare"], unfollowed := true, recurses := true, named := ["planchet/sha.start", "planchet/sha.constants"], plainKeys := false, apart := false, laid := [("planchet/sha.start", laid_planchet_sha_start), ("planchet/sha.constants", laid_planchet_sha_constants)] }
def PtreeTurnsSaid : Prop := ptreeTurnsRow.holds Tryd.pinned (OpenSpec.ofChange ptreeTurnsSpec)

/-- ITS FALSE NEIGHBOUR: 'it returns false'. Refute it at one input. -/
def ptreeTurnsWrong : ChangeSpec := { name := "ptreeTurns", fn := fun _ => fun
  | [d1, d2, d3] => { results := [.lit (.bool false)], args := [d1, d2, d3] }
  | _ => none }
def PtreeTurnsWrongFalsely : Prop := ptreeTurnsRow.holds Tryd.pinned (OpenSpec.ofChange ptreeTurnsWrong)

/-- 'planchetlaw18.ProofClimbs': WHATEVER THE INPUT: true; the input reads as it did. -/
def proofClimbsSpec : ChangeSpec := { name := "proofClimbs", fn := fun _ => fun
  | [d1, d2, d3, d4] => { results := [.lit (.bool true)], args := [d1, d2, d3, d4] }
  | _ => none }
def proofClimbsRow : OpenClaim := { program := "ythaicocfbmpnmaadoor", sum := "25364490f7b3cd08dd9decb45dc97fbb2b659c72de98f70f3c6eaedd70d2fdf2", func := "planchet/planchetlaw18.ProofClimbs", spec := "proofClimbs", inPlace := ["internal/bytealg.Compare"], unfollowed := true, recurses := true, named := ["planchet/sha.start", "planchet/sha.constants"], plainKeys := false, apart := false, laid := [("planchet/sha.start", laid_planchet_sha_start), ("planchet/sha.constants", laid_planchet_sha_constants)] }
def ProofClimbsSaid : Prop := proofClimbsRow.holds Tryd.pinned (OpenSpec.ofChange proofClimbsSpec)

/-- ITS FALSE NEIGHBOUR: 'it returns false'. Refute it at one input. -/
def proofClimbsWrong : ChangeSpec := { name := "proofClimbs", fn := fun _ => fun
  | [d1, d2, d3, d4] => { results := [.lit (.bool false)], args := [d1, d2, d3, d4] }
  | _ => none }
def ProofClimbsWrongFalsely : Prop := proofClimbsRow.holds Tryd.pinned (OpenSpec.ofChange proofClimbsWrong)

/-- 'planchetlaw18.ProofShows': WHATEVER THE INPUT: true; the input reads as it did. -/
def proofShowsSpec : ChangeSpec := { name := "proofShows", fn := fun _ => fun
  | [d1, d2] => { results := [.lit (.bool true)], args := [d1, d2] }
  | _ => none }
def proofShowsRow : OpenClaim := { program := "ythaicocfbmpnmaadoor", sum := "25364490f7b3cd08dd9decb45dc97fbb2b659c72de98f70f3c6eaedd70d2fdf2", func := "planchet/planchetlaw18.ProofShows", spec := "proofShows", inPlace := ["internal/bytealg.Compare"], unfollowed := true, recurses := true, named := ["planchet/sha.start", "planchet/sha.constants"], plainKeys := false, apart := false, laid := [("planchet/sha.start", laid_planchet_sha_start), ("planchet/sha.constants", laid_planchet_sha_constants)] }
def ProofShowsSaid : Prop := proofShowsRow.holds Tryd.pinned (OpenSpec.ofChange proofShowsSpec)

/-- ITS FALSE NEIGHBOUR: 'it returns false'. Refute it at one input. -/
def proofShowsWrong : ChangeSpec := { name := "proofShows", fn := fun _ => fun
  | [d1, d2] => { results := [.lit (.bool false)], args := [d1, d2] }
  | _ => none }
def ProofShowsWrongFalsely : Prop := proofShowsRow.holds Tryd.pinned (OpenSpec.ofChange proofShowsWrong)

/-- 'planchetlaw19.LogRoots': WHATEVER THE INPUT: true; the input reads as it did. -/
def logRootsSpec : ChangeSpec := { name := "logRoots", fn := fun _ => fun
  | [d1, d2, d3] => { results := [.lit (.bool true)], args := [d1, d2, d3] }
  | _ => none }
def logRootsRow : OpenClaim := { program := "ythaicocfbmpnmaadoor", sum := "25364490f7b3cd08dd9decb45dc97fbb2b659c72de98f70f3c6eaedd70d2fdf2", func := "planchet/planchetlaw19.LogRoots", spec := "logRoots", recurses := true, named := ["planchet/sha.start", "planchet/sha.constants"], plainKeys := false, apart := false, laid := [("planchet/sha.start", laid_planchet_sha_start), ("planchet/sha.constants", laid_planchet_sha_constants)] }
def LogRootsSaid : Prop := logRootsRow.holds Tryd.pinned (OpenSpec.ofChange logRootsSpec)

/-- ITS FALSE NEIGHBOUR: 'it returns false'. Refute it at one input. -/
def logRootsWrong : ChangeSpec := { name := "logRoots", fn := fun _ => fun
  | [d1, d2, d3] => { results := [.lit (.bool false)], args := [d1, d2, d3] }
  | _ => none }
def LogRootsWrongFalsely : Prop := logRootsRow.holds Tryd.pinned (OpenSpec.ofChange logRootsWrong)

/-- 'planchetlaw19.LogChecks': WHATEVER THE INPUT: true; the input reads as it did. -/
def logChecksSpec : ChangeSpec := { name := "logChecks", fn := fun _ => fun
  | [d1, d2, d3, d4, d5, d6] => { results := [.lit (.bool true)], args := [d1, d2, d3, d4, d5, d6] }
  | _ => none }
def logChecksRow : OpenClaim := { program := "ythaicocfbmpnmaadoor", sum := "25364490f7b3cd08dd9decb45dc97fbb2b659c72de98f70f3c6eaedd70d2fdf2", func := "planchet/planchetlaw19.LogChecks", spec := "logChecks", unfollowed := true, recurses := true, named := ["planchet/sha.start", "planchet/sha.constants"], plainKeys := false, apart := false, laid := [("planchet/sha.start", laid_planchet_sha_start), ("planchet/sha.constants", laid_planchet_sha_constants)] }
def LogChecksSaid : Prop := logChecksRow.holds Tryd.pinned (OpenSpec.ofChange logChecksSpec)

/-- ITS FALSE NEIGHBOUR: 'it returns false'. Refute it at one input. -/
def logChecksWrong : ChangeSpec := { name := "logChecks", fn := fun _ => fun
  | [d1, d2, d3, d4, d5, d6] => { results := [.lit (.bool false)], args := [d1, d2, d3, d4, d5, d6] }
  | _ => none }
def LogChecksWrongFalsely : Prop := logChecksRow.holds Tryd.pinned (OpenSpec.ofChange logChecksWrong)

/-- 'planchetlaw19.LogShows': WHATEVER THE INPUT: true; the input reads as it did. -/
def logShowsSpec : ChangeSpec := { name := "logShows", fn := fun _ => fun
  | [d1, d2, d3] => { results := [.lit (.bool true)], args := [d1, d2, d3] }
  | _ => none }
def logShowsRow : OpenClaim := { program := "ythaicocfbmpnmaadoor", sum := "25364490f7b3cd08dd9decb45dc97fbb2b659c72de98f70f3c6eaedd70d2fdf2", func := "planchet/planchetlaw19.LogShows", spec := "logShows", unfollowed := true, recurses := true, named := ["planchet/sha.start", "planchet/sha.constants"], plainKeys := false, apart := false, laid := [("planchet/sha.start", laid_planchet_sha_start), ("planchet/sha.constants", laid_planchet_sha_constants)] }
def LogShowsSaid : Prop := logShowsRow.holds Tryd.pinned (OpenSpec.ofChange logShowsSpec)

/-- ITS FALSE NEIGHBOUR: 'it returns false'. Refute it at one input. -/
def logShowsWrong : ChangeSpec := { name := "logShows", fn := fun _ => fun
  | [d1, d2, d3] => { results := [.lit (.bool false)], args := [d1, d2, d3] }
  | _ => none }
def LogShowsWrongFalsely : Prop := logShowsRow.holds Tryd.pinned (OpenSpec.ofChange logShowsWrong)

/- THE SECOND FORM. 'bulk': how many values and letters a reading holds, each counted each time it is reached (what is shared counts as often as it is met; a slice's spare places count too). A statement '..UptoSaid' is the law's where the arguments, and the package variables that the reading takes, are together of bulk at most 1048576: NARROWER than '..Said'. Prove '..Said' where nothing that the law and all that it calls make is longer than what came in: it says more and counts as full. Else prove '..UptoSaid'. A law counts once. -/
mutual
def uptoBulk {H : Type} : DataW H → Nat
  | .lit (.string bytes) => bytes.length + 1
  | .lit _ => 1
  | .nil => 1
  | .ptr d => uptoBulk d + 1
  | .slice elems spare => uptoBulkAll elems + uptoBulkAll spare + 1
  | .agg parts => uptoBulkAll parts + 1
  | .iface _ d => uptoBulk d + 1
  | .map entries => uptoBulkEntries entries + 1
  | .held _ => 1
def uptoBulkAll {H : Type} : List (DataW H) → Nat
  | [] => 0
  | d :: r => uptoBulk d + uptoBulkAll r
def uptoBulkEntries {H : Type} : List (Lit × DataW H) → Nat
  | [] => 0
  | x :: r => uptoBulkEntry x + uptoBulkEntries r
def uptoBulkEntry {H : Type} : Lit × DataW H → Nat
  | (.string bytes, d) => bytes.length + uptoBulk d + 1
  | (_, d) => uptoBulk d + 1
 end
def uptoSmall : (H : Type) → List (DataW H) → Bool := fun _ ds => decide (uptoBulkAll ds ≤ 1048576)
def OpenSpec.upto (s : _root_.Go.ChangeSpec) : _root_.Go.OpenSpec := { _root_.Go.OpenSpec.ofChange s with cond := some uptoSmall }

/-- 'planchetlaw17.PtreeNodes', WHERE WHAT IT READS IS OF BULK AT MOST 1048576: true; the input reads as it did. -/
def ptreeNodesUptoRow : OpenClaim := { program := "ythaicocfbmpnmaadoor", sum := "25364490f7b3cd08dd9decb45dc97fbb2b659c72de98f70f3c6eaedd70d2fdf2", func := "planchet/planchetlaw17.PtreeNodes", spec := "ptreeNodes", inPlace := ["internal/bytealg.Compare"], unfollowed := true, recurses := true, named := ["planchet/sha.start", "planchet/sha.constants"], plainKeys := false, apart := false, laid := [("planchet/sha.start", laid_planchet_sha_start), ("planchet/sha.constants", laid_planchet_sha_constants)], narrowed := true }
def PtreeNodesUptoSaid : Prop := ptreeNodesUptoRow.holds Tryd.pinned (OpenSpec.upto ptreeNodesSpec)

/-- 'planchetlaw17.PtreeRoots', WHERE WHAT IT READS IS OF BULK AT MOST 1048576: true; the input reads as it did. -/
def ptreeRootsUptoRow : OpenClaim := { program := "ythaicocfbmpnmaadoor", sum := "25364490f7b3cd08dd9decb45dc97fbb2b659c72de98f70f3c6eaedd70d2fdf2", func := "planchet/planchetlaw17.PtreeRoots", spec := "ptreeRoots", inPlace := ["internal/bytealg.Compare"], unfollowed := true, recurses := true, named := ["planchet/sha.start", "planchet/sha.constants"], plainKeys := false, apart := false, laid := [("planchet/sha.start", laid_planchet_sha_start), ("planchet/sha.constants", laid_planchet_sha_constants)], narrowed := true }
def PtreeRootsUptoSaid : Prop := ptreeRootsUptoRow.holds Tryd.pinned (OpenSpec.upto ptreeRootsSpec)

/-- 'planchetlaw17.PtreeProves', WHERE WHAT IT READS IS OF BULK AT MOST 1048576: true; the input reads as it did. -/
def ptreeProvesUptoRow : OpenClaim := { program := "ythaicocfbmpnmaadoor", sum := "25364490f7b3cd08dd9decb45dc97fbb2b659c72de98f70f3c6eaedd70d2fdf2", func := "planchet/planchetlaw17.PtreeProves", spec := "ptreeProves", inPlace := ["internal/bytealg.Compare"], unfollowed := true, recurses := true, named := ["planchet/sha.start", "planchet/sha.constants"], plainKeys := false, apart := false, laid := [("planchet/sha.start", laid_planchet_sha_start), ("planchet/sha.constants", laid_planchet_sha_constants)], narrowed := true }
def PtreeProvesUptoSaid : Prop := ptreeProvesUptoRow.holds Tryd.pinned (OpenSpec.upto ptreeProvesSpec)

/-- 'planchetlaw17.PtreeTurns', WHERE WHAT IT READS IS OF BULK AT MOST 1048576: true; the input reads as it did. -/
def ptreeTurnsUptoRow : OpenClaim := { program := "ythaicocfbmpnmaadoor", sum := "25364490f7b3cd08dd9decb45dc97fbb2b659c72de98f70f3c6eaedd70d2fdf2", func := "planchet/planchetlaw17.PtreeTurns", spec := "ptreeTurns", inPlace := ["internal/bytealg.Compare"], unfollowed := true, recurses := true, named := ["planchet/sha.start", "planchet/sha.constants"], plainKeys := false, apart := false, laid := [("planchet/sha.start", laid_planchet_sha_start), ("planchet/sha.constants", laid_planchet_sha_constants)], narrowed := true }
def PtreeTurnsUptoSaid : Prop := ptreeTurnsUptoRow.holds Tryd.pinned (OpenSpec.upto ptreeTurnsSpec)

/-- 'planchetlaw18.ProofClimbs', WHERE WHAT IT READS IS OF BULK AT MOST 1048576: true; the input reads as it did. -/
def proofClimbsUptoRow : OpenClaim := { program := "ythaicocfbmpnmaadoor", sum := "25364490f7b3cd08dd9decb45dc97fbb2b659c72de98f70f3c6eaedd70d2fdf2", func := "planchet/planchetlaw18.ProofClimbs", spec := "proofClimbs", inPlace := ["internal/bytealg.Compare"], unfollowed := true, recurses := true, named := ["planchet/sha.start", "planchet/sha.constants"], plainKeys := false, apart := false, laid := [("planchet/sha.start", laid_planchet_sha_start), ("planchet/sha.constants", laid_planchet_sha_constants)], narrowed := true }
def ProofClimbsUptoSaid : Prop := proofClimbsUptoRow.holds Tryd.pinned (OpenSpec.upto proofClimbsSpec)

/-- 'planchetlaw18.ProofShows', WHERE WHAT IT READS IS OF BULK AT MOST 1048576: true; the input reads as it did. -/
def proofShowsUptoRow : OpenClaim := { program := "ythaicocfbmpnmaadoor", sum := "25364490f7b3cd08dd9decb45dc97fbb2b659c72de98f70f3c6eaedd70d2fdf2", func := "planchet/planchetlaw18.ProofShows", spec := "proofShows", inPlace := ["internal/bytealg.Compare"], unfollowed := true, recurses := true, named := ["planchet/sha.start", "planchet/sha.constants"], plainKeys := false, apart := false, laid := [("planchet/sha.start", laid_planchet_sha_start), ("planchet/sha.constants", laid_planchet_sha_constants)], narrowed := true }
def ProofShowsUptoSaid : Prop := proofShowsUptoRow.holds Tryd.pinned (OpenSpec.upto proofShowsSpec)

/-- 'planchetlaw19.LogRoots', WHERE WHAT IT READS IS OF BULK AT MOST 1048576: true; the input reads as it did. -/
def logRootsUptoRow : OpenClaim := { program := "ythaicocfbmpnmaadoor", sum := "25364490f7b3cd08dd9decb45dc97fbb2b659c72de98f70f3c6eaedd70d2fdf2", func := "planchet/planchetlaw19.LogRoots", spec := "logRoots", recurses := true, named := ["planchet/sha.start", "planchet/sha.constants"], plainKeys := false, apart := false, laid := [("planchet/sha.start", laid_planchet_sha_start), ("planchet/sha.constants", laid_planchet_sha_constants)], narrowed := true }
def LogRootsUptoSaid : Prop := logRootsUptoRow.holds Tryd.pinned (OpenSpec.upto logRootsSpec)

/-- 'planchetlaw19.LogChecks', WHERE WHAT IT READS IS OF BULK AT MOST 1048576: true; the input reads as it did. -/
def logChecksUptoRow : OpenClaim := { program := "ythaicocfbmpnmaadoor", sum := "25364490f7b3cd08dd9decb45dc97fbb2b659c72de98f70f3c6eaedd70d2fdf2", func := "planchet/planchetlaw19.LogChecks", spec := "logChecks", unfollowed := true, recurses := true, named := ["planchet/sha.start", "planchet/sha.constants"], plainKeys := false, apart := false, laid := [("planchet/sha.start", laid_planchet_sha_start), ("planchet/sha.constants", laid_planchet_sha_constants)], narrowed := true }
def LogChecksUptoSaid : Prop := logChecksUptoRow.holds Tryd.pinned (OpenSpec.upto logChecksSpec)

/-- 'planchetlaw19.LogShows', WHERE WHAT IT READS IS OF BULK AT MOST 1048576: true; the input reads as it did. -/
def logShowsUptoRow : OpenClaim := { program := "ythaicocfbmpnmaadoor", sum := "25364490f7b3cd08dd9decb45dc97fbb2b659c72de98f70f3c6eaedd70d2fdf2", func := "planchet/planchetlaw19.LogShows", spec := "logShows", unfollowed := true, recurses := true, named := ["planchet/sha.start", "planchet/sha.constants"], plainKeys := false, apart := false, laid := [("planchet/sha.start", laid_planchet_sha_start), ("planchet/sha.constants", laid_planchet_sha_constants)], narrowed := true }
def LogShowsUptoSaid : Prop := logShowsUptoRow.holds Tryd.pinned (OpenSpec.upto logShowsSpec)

end Rows
end Go.Proofs.YthaicocfbmpnmaaDoor
