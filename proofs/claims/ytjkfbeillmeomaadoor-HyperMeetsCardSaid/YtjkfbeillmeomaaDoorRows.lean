/-
  NARROWER THAN 'FOR EVERY INPUT', by the rows' own cells (each row's printed sentence says how): WotsKeys: laid · WotsSigns: laid · WotsLeads: laid · WotsMeets: laid · LtreeMakes: laid · LtreeFew: laid · TreeBuilds: laid · TreeClimbs: laid · TreeMeets: laid · HyperKeys: laid · HyperVerifies: laid · HyperMeets: laid · CommitIndices: laid · CommitValues: laid.
  DERIVED. THE GIVEN ROWS OF THIS SEAT. 14 by the template 'for every input the law returns true; each argument reads behind the call as it read before'; 0 by the template 'total and deterministic' (their statements: YtjkfbeillmeomaaDoorTotals.lean).
  GIVEN WITH THE SEED: the statements are not yours to turn. If you find one false, say at which input.
  Laid BY PROGRAM, IN A SANDBOX (cutbox-rows.mjs): the forced cells as the released guide's own fill.sh prints them over the translation 93d9d5e33b5f3931… (all of the seat's roots in one cut). By AI agents, Wed Nov 11 2026. No macro, syntax, notation, axiom, sorry.
-/
import Derived.Test.YtjkfbeillmeomaaDoorChecked
import GoSem.Claim
import GoSem.ClaimJoined
import GoSem.ClaimMapViews
import Derived.JoinedTies
import Derived.KernelRfl
namespace Go.Proofs.YtjkfbeillmeomaaDoor
/- THE CELL 'sum', in the pinned program and in every row, IS THE sha256 OF THE DUMP (.gsa) THAT YtjkfbeillmeomaaDoorProg.lean LOADS. Nothing in Lean hashes anything: it is a label: what it is worth is what the hold of that sum in a sandbox is worth. -/
noncomputable def Tryd.pinned : Pinned := { name := "ytjkfbeillmeomaadoor", sum := "93d9d5e33b5f3931b050d7aaa22ff391cbec8c0d1641dd4934fa9b1e8b9e636a", checked := Tryd.checked }
namespace Rows
def none {H : Type} : Left H := { results := [], args := [] }

/- WHAT THE LISTED PACKAGE-LEVEL VARIABLES READ AS WHEN THE CALL BEGINS. Each datum BY PROGRAM (the guide's laid-datum.mjs) off the statement by which the dump's own 'gosem.cut.vars' lays the variable. In a bare row this is a premise. The card (YtjkfbeillmeomaaDoorCards.lean) ties it to the program's text. -/
def laid_planchet_sha_start {H : Type} : DataW H := .agg [.lit (.int .u32 1779033703), .lit (.int .u32 3144134277), .lit (.int .u32 1013904242), .lit (.int .u32 2773480762), .lit (.int .u32 1359893119), .lit (.int .u32 2600822924), .lit (.int .u32 528734635), .lit (.int .u32 1541459225)]
def laid_planchet_sha_constants {H : Type} : DataW H := .agg [.lit (.int .u32 1116352408), .lit (.int .u32 1899447441), .lit (.int .u32 3049323471), .lit (.int .u32 3921009573), .lit (.int .u32 961987163), .lit (.int .u32 1508970993), .lit (.int .u32 2453635748), .lit (.int .u32 2870763221), .lit (.int .u32 3624381080), .lit (.int .u32 310598401), .lit (.int .u32 607225278), .lit (.int .u32 1426881987), .lit (.int .u32 1925078388), .lit (.int .u32 2162078206), .lit (.int .u32 2614888103), .lit (.int .u32 3248222580), .lit (.int .u32 3835390401), .lit (.int .u32 4022224774), .lit (.int .u32 264347078), .lit (.int .u32 604807628), .lit (.int .u32 770255983), .lit (.int .u32 1249150122), .lit (.int .u32 1555081692), .lit (.int .u32 1996064986), .lit (.int .u32 2554220882), .lit (.int .u32 2821834349), .lit (.int .u32 2952996808), .lit (.int .u32 3210313671), .lit (.int .u32 3336571891), .lit (.int .u32 3584528711), .lit (.int .u32 113926993), .lit (.int .u32 338241895), .lit (.int .u32 666307205), .lit (.int .u32 773529912), .lit (.int .u32 1294757372), .lit (.int .u32 1396182291), .lit (.int .u32 1695183700), .lit (.int .u32 1986661051), .lit (.int .u32 2177026350), .lit (.int .u32 2456956037), .lit (.int .u32 2730485921), .lit (.int .u32 2820302411), .lit (.int .u32 3259730800), .lit (.int .u32 3345764771), .lit (.int .u32 3516065817), .lit (.int .u32 3600352804), .lit (.int .u32 4094571909), .lit (.int .u32 275423344), .lit (.int .u32 430227734), .lit (.int .u32 506948616), .lit (.int .u32 659060556), .lit (.int .u32 883997877), .lit (.int .u32 958139571), .lit (.int .u32 1322822218), .lit (.int .u32 1537002063), .lit (.int .u32 1747873779), .lit (.int .u32 1955562222), .lit (.int .u32 2024104815), .lit (.int .u32 2227730452), .lit (.int .u32 2361852424), .lit (.int .u32 2428436474), .lit (.int .u32 2756734187), .lit (.int .u32 3204031479), .lit (.int .u32 3329325298)]

/-- 'planchetlaw08.WotsKeys': WHATEVER THE INPUT: true; the input reads as it did. -/
def wotsKeysSpec : ChangeSpec := { name := "wotsKeys", fn := fun _ => fun
  | [d1, d2, d3] => { results := [.lit (.bool true)], args := [d1, d2, d3] }
  | _ => none }
def wotsKeysRow : OpenClaim := { program := "ytjkfbeillmeomaadoor", sum := "93d9d5e33b5f3931b050d7aaa22ff391cbec8c0d1641dd4934fa9b1e8b9e636a", func := "planchet/planchetlaw08.WotsKeys", spec := "wotsKeys", unfollowed := true, recurses := true, named := ["planchet/sha.start", "planchet/sha.constants"], apart := false, laid := [("planchet/sha.start", laid_planchet_sha_start), ("planchet/sha.constants", laid_planchet_sha_constants)] }
def WotsKeysSaid : Prop := wotsKeysRow.holds Tryd.pinned (OpenSpec.ofChange wotsKeysSpec)

/-- ITS FALSE NEIGHBOUR: 'it returns false'. Refute it at one input. -/
def wotsKeysWrong : ChangeSpec := { name := "wotsKeys", fn := fun _ => fun
  | [d1, d2, d3] => { results := [.lit (.bool false)], args := [d1, d2, d3] }
  | _ => none }
def WotsKeysWrongFalsely : Prop := wotsKeysRow.holds Tryd.pinned (OpenSpec.ofChange wotsKeysWrong)

/-- 'planchetlaw08.WotsSigns': WHATEVER THE INPUT: true; the input reads as it did. -/
def wotsSignsSpec : ChangeSpec := { name := "wotsSigns", fn := fun _ => fun
  | [d1, d2, d3, d4] => { results := [.lit (.bool true)], args := [d1, d2, d3, d4] }
  | _ => none }
def wotsSignsRow : OpenClaim := { program := "ytjkfbeillmeomaadoor", sum := "93d9d5e33b5f3931b050d7aaa22ff391cbec8c0d1641dd4934fa9b1e8b9e636a", func := "planchet/planchetlaw08.WotsSigns", spec := "wotsSigns", unfollowed := true, recurses := true, named := ["planchet/sha.start", "planchet/sha.constants"], apart := false, laid := [("planchet/sha.start", laid_planchet_sha_start), ("planchet/sha.constants", laid_planchet_sha_constants)] }
def WotsSignsSaid : Prop := wotsSignsRow.holds Tryd.pinned (OpenSpec.ofChange wotsSignsSpec)

/-- ITS FALSE NEIGHBOUR: 'it returns false'. Refute it at one input. -/
def wotsSignsWrong : ChangeSpec := { name := "wotsSigns", fn := fun _ => fun
  | [d1, d2, d3, d4] => { results := [.lit (.bool false)], args := [d1, d2, d3, d4] }
  | _ => none }
def WotsSignsWrongFalsely : Prop := wotsSignsRow.holds Tryd.pinned (OpenSpec.ofChange wotsSignsWrong)

/-- 'planchetlaw08.WotsLeads': WHATEVER THE INPUT: true; the input reads as it did. -/
def wotsLeadsSpec : ChangeSpec := { name := "wotsLeads", fn := fun _ => fun
  | [d1, d2, d3, d4] => { results := [.lit (.bool true)], args := [d1, d2, d3, d4] }
  | _ => none }
def wotsLeadsRow : OpenClaim := { program := "ytjkfbeillmeomaadoor", sum := "93d9d5e33b5f3931b050d7aaa22ff391cbec8c0d1641dd4934fa9b1e8b9e636a", func := "planchet/planchetlaw08.WotsLeads", spec := "wotsLeads", unfollowed := true, recurses := true, named := ["planchet/sha.start", "planchet/sha.constants"], apart := false, laid := [("planchet/sha.start", laid_planchet_sha_start), ("planchet/sha.constants", laid_planchet_sha_constants)] }
def WotsLeadsSaid : Prop := wotsLeadsRow.holds Tryd.pinned (OpenSpec.ofChange wotsLeadsSpec)

/-- ITS FALSE NEIGHBOUR: 'it returns false'. Refute it at one input. -/
def wotsLeadsWrong : ChangeSpec := { name := "wotsLeads", fn := fun _ => fun
  | [d1, d2, d3, d4] => { results := [.lit (.bool false)], args := [d1, d2, d3, d4] }
  | _ => none }
def WotsLeadsWrongFalsely : Prop := wotsLeadsRow.holds Tryd.pinned (OpenSpec.ofChange wotsLeadsWrong)

/-- 'planchetlaw08.WotsMeets': WHATEVER THE INPUT: true; the input reads as it did. -/
def wotsMeetsSpec : ChangeSpec := { name := "wotsMeets", fn := fun _ => fun
  | [d1, d2, d3, d4] => { results := [.lit (.bool true)], args := [d1, d2, d3, d4] }
  | _ => none }
def wotsMeetsRow : OpenClaim := { program := "ytjkfbeillmeomaadoor", sum := "93d9d5e33b5f3931b050d7aaa22ff391cbec8c0d1641dd4934fa9b1e8b9e636a", func := "planchet/planchetlaw08.WotsMeets", spec := "wotsMeets", unfollowed := true, recurses := true, named := ["planchet/sha.start", "planchet/sha.constants"], apart := false, laid := [("planchet/sha.start", laid_planchet_sha_start), ("planchet/sha.constants", laid_planchet_sha_constants)] }
def WotsMeetsSaid : Prop := wotsMeetsRow.holds Tryd.pinned (OpenSpec.ofChange wotsMeetsSpec)

/-- ITS FALSE NEIGHBOUR: 'it returns false'. Refute it at one input. -/
def wotsMeetsWrong : ChangeSpec := { name := "wotsMeets", fn := fun _ => fun
  | [d1, d2, d3, d4] => { results := [.lit (.bool false)], args := [d1, d2, d3, d4] }
  | _ => none }
def WotsMeetsWrongFalsely : Prop := wotsMeetsRow.holds Tryd.pinned (OpenSpec.ofChange wotsMeetsWrong)

/-- 'planchetlaw09.LtreeMakes': WHATEVER THE INPUT: true; the input reads as it did. -/
def ltreeMakesSpec : ChangeSpec := { name := "ltreeMakes", fn := fun _ => fun
  | [d1, d2, d3] => { results := [.lit (.bool true)], args := [d1, d2, d3] }
  | _ => none }
def ltreeMakesRow : OpenClaim := { program := "ytjkfbeillmeomaadoor", sum := "93d9d5e33b5f3931b050d7aaa22ff391cbec8c0d1641dd4934fa9b1e8b9e636a", func := "planchet/planchetlaw09.LtreeMakes", spec := "ltreeMakes", recurses := true, named := ["planchet/sha.start", "planchet/sha.constants"], apart := false, laid := [("planchet/sha.start", laid_planchet_sha_start), ("planchet/sha.constants", laid_planchet_sha_constants)] }
def LtreeMakesSaid : Prop := ltreeMakesRow.holds Tryd.pinned (OpenSpec.ofChange ltreeMakesSpec)

/-- ITS FALSE NEIGHBOUR: 'it returns false'. Refute it at one input. -/
def ltreeMakesWrong : ChangeSpec := { name := "ltreeMakes", fn := fun _ => fun
  | [d1, d2, d3] => { results := [.lit (.bool false)], args := [d1, d2, d3] }
  | _ => none }
def LtreeMakesWrongFalsely : Prop := ltreeMakesRow.holds Tryd.pinned (OpenSpec.ofChange ltreeMakesWrong)

/-- 'planchetlaw09.LtreeFew': WHATEVER THE INPUT: true; the input reads as it did. -/
def ltreeFewSpec : ChangeSpec := { name := "ltreeFew", fn := fun _ => fun
  | [d1, d2, d3, d4, d5] => { results := [.lit (.bool true)], args := [d1, d2, d3, d4, d5] }
  | _ => none }
def ltreeFewRow : OpenClaim := { program := "ytjkfbeillmeomaadoor", sum := "93d9d5e33b5f3931b050d7aaa22ff391cbec8c0d1641dd4934fa9b1e8b9e636a", func := "planchet/planchetlaw09.LtreeFew", spec := "ltreeFew", named := ["planchet/sha.start", "planchet/sha.constants"], apart := false, laid := [("planchet/sha.start", laid_planchet_sha_start), ("planchet/sha.constants", laid_planchet_sha_constants)] }
def LtreeFewSaid : Prop := ltreeFewRow.holds Tryd.pinned (OpenSpec.ofChange ltreeFewSpec)

/-- ITS FALSE NEIGHBOUR: 'it returns false'. Refute it at one input. -/
def ltreeFewWrong : ChangeSpec := { name := "ltreeFew", fn := fun _ => fun
  | [d1, d2, d3, d4, d5] => { results := [.lit (.bool false)], args := [d1, d2, d3, d4, d5] }
  | _ => none }
def LtreeFewWrongFalsely : Prop := ltreeFewRow.holds Tryd.pinned (OpenSpec.ofChange ltreeFewWrong)

/-- 'planchetlaw10.TreeBuilds': WHATEVER THE INPUT: true; the input reads as it did. -/
def treeBuildsSpec : ChangeSpec := { name := "treeBuilds", fn := fun _ => fun
  | [d1, d2, d3, d4, d5] => { results := [.lit (.bool true)], args := [d1, d2, d3, d4, d5] }
  | _ => none }
def treeBuildsRow : OpenClaim := { program := "ytjkfbeillmeomaadoor", sum := "93d9d5e33b5f3931b050d7aaa22ff391cbec8c0d1641dd4934fa9b1e8b9e636a", func := "planchet/planchetlaw10.TreeBuilds", spec := "treeBuilds", unfollowed := true, recurses := true, named := ["planchet/sha.start", "planchet/sha.constants"], apart := false, laid := [("planchet/sha.start", laid_planchet_sha_start), ("planchet/sha.constants", laid_planchet_sha_constants)] }
def TreeBuildsSaid : Prop := treeBuildsRow.holds Tryd.pinned (OpenSpec.ofChange treeBuildsSpec)

/-- ITS FALSE NEIGHBOUR: 'it returns false'. Refute it at one input. -/
def treeBuildsWrong : ChangeSpec := { name := "treeBuilds", fn := fun _ => fun
  | [d1, d2, d3, d4, d5] => { results := [.lit (.bool false)], args := [d1, d2, d3, d4, d5] }
  | _ => none }
def TreeBuildsWrongFalsely : Prop := treeBuildsRow.holds Tryd.pinned (OpenSpec.ofChange treeBuildsWrong)

/-- 'planchetlaw10.TreeClimbs': WHATEVER THE INPUT: true; the input reads as it did. -/
def treeClimbsSpec : ChangeSpec := { name := "treeClimbs", fn := fun _ => fun
  | [d1, d2, d3, d4, d5, d6] => { results := [.lit (.bool true)], args := [d1, d2, d3, d4, d5, d6] }
  | _ => none }
def treeClimbsRow : OpenClaim := { program := "ytjkfbeillmeomaadoor", sum := "93d9d5e33b5f3931b050d7aaa22ff391cbec8c0d1641dd4934fa9b1e8b9e636a", func := "planchet/planchetlaw10.TreeClimbs", spec := "treeClimbs", unfollowed := true, recurses := true, named := ["planchet/sha.start", "planchet/sha.constants"], apart := false, laid := [("planchet/sha.start", laid_planchet_sha_start), ("planchet/sha.constants", laid_planchet_sha_constants)] }
def TreeClimbsSaid : Prop := treeClimbsRow.holds Tryd.pinned (OpenSpec.ofChange treeClimbsSpec)

/-- ITS FALSE NEIGHBOUR: 'it returns false'. Refute it at one input. -/
def treeClimbsWrong : ChangeSpec := { name := "treeClimbs", fn := fun _ => fun
  | [d1, d2, d3, d4, d5, d6] => { results := [.lit (.bool false)], args := [d1, d2, d3, d4, d5, d6] }
  | _ => none }
def TreeClimbsWrongFalsely : Prop := treeClimbsRow.holds Tryd.pinned (OpenSpec.ofChange treeClimbsWrong)

/-- 'planchetlaw10.TreeMeets': WHATEVER THE INPUT: true; the input reads as it did. -/
def treeMeetsSpec : ChangeSpec := { name := "treeMeets", fn := fun _ => fun
  | [d1, d2, d3, d4, d5, d6] => { results := [.lit (.bool true)], args := [d1, d2, d3, d4, d5, d6] }
  | _ => none }
def treeMeetsRow : OpenClaim := { program := "ytjkfbeillmeomaadoor", sum := "93d9d5e33b5f3931b050d7aaa22ff391cbec8c0d1641dd4934fa9b1e8b9e636a", func := "planchet/planchetlaw10.TreeMeets", spec := "treeMeets", unfollowed := true, recurses := true, named := ["planchet/sha.start", "planchet/sha.constants"], apart := false, laid := [("planchet/sha.start", laid_planchet_sha_start), ("planchet/sha.constants", laid_planchet_sha_constants)] }
def TreeMeetsSaid : Prop := treeMeetsRow.holds Tryd.pinned (OpenSpec.ofChange treeMeetsSpec)

/-- ITS FALSE NEIGHBOUR: 'it returns false'. Refute it at one input. -/
def treeMeetsWrong : ChangeSpec := { name := "treeMeets", fn := fun _ => fun
  | [d1, d2, d3, d4, d5, d6] => { results := [.lit (.bool false)], args := [d1, d2, d3, d4, d5, d6] }
  | _ => none }
def TreeMeetsWrongFalsely : Prop := treeMeetsRow.holds Tryd.pinned (OpenSpec.ofChange treeMeetsWrong)

/-- 'planchetlaw11.HyperKeys': WHATEVER THE INPUT: true; the input reads as it did. -/
def hyperKeysSpec : ChangeSpec := { name := "hyperKeys", fn := fun _ => fun
  | [d1, d2] => { results := [.lit (.bool true)], args := [d1, d2] }
  | _ => none }
def hyperKeysRow : OpenClaim := { program := "ytjkfbeillmeomaadoor", sum := "93d9d5e33b5f3931b050d7aaa22ff391cbec8c0d1641dd4934fa9b1e8b9e636a", func := "planchet/planchetlaw11.HyperKeys", spec := "hyperKeys", unfollowed := true, recurses := true, named := ["planchet/sha.start", "planchet/sha.constants"], apart := false, laid := [("planchet/sha.start", laid_planchet_sha_start), ("planchet/sha.constants", laid_planchet_sha_constants)] }
def HyperKeysSaid : Prop := hyperKeysRow.holds Tryd.pinned (OpenSpec.ofChange hyperKeysSpec)

/-- ITS FALSE NEIGHBOUR: 'it returns false'. Refute it at one input. -/
def hyperKeysWrong : ChangeSpec := { name := "hyperKeys", fn := fun _ => fun
  | [d1, d2] => { results := [.lit (.bool false)], args := [d1, d2] }
  | _ => none }
def HyperKeysWrongFalsely : Prop := hyperKeysRow.holds Tryd.pinned (OpenSpec.ofChange hyperKeysWrong)

/-- 'planchetlaw11.HyperVerifies': WHATEVER THE INPUT: true; the input reads as it did. -/
def hyperVerifiesSpec : ChangeSpec := { name := "hyperVerifies", fn := fun _ => fun
  | [d1, d2, d3] => { results := [.lit (.bool true)], args := [d1, d2, d3] }
  | _ => none }
def hyperVerifiesRow : OpenClaim := { program := "ytjkfbeillmeomaadoor", sum := "93d9d5e33b5f3931b050d7aaa22ff391cbec8c0d1641dd4934fa9b1e8b9e636a", func := "planchet/planchetlaw11.HyperVerifies", spec := "hyperVerifies", unfollowed := true, recurses := true, named := ["planchet/sha.start", "planchet/sha.constants"], apart := false, laid := [("planchet/sha.start", laid_planchet_sha_start), ("planchet/sha.constants", laid_planchet_sha_constants)] }
def HyperVerifiesSaid : Prop := hyperVerifiesRow.holds Tryd.pinned (OpenSpec.ofChange hyperVerifiesSpec)

/-- ITS FALSE NEIGHBOUR: 'it returns false'. Refute it at one input. -/
def hyperVerifiesWrong : ChangeSpec := { name := "hyperVerifies", fn := fun _ => fun
  | [d1, d2, d3] => { results := [.lit (.bool false)], args := [d1, d2, d3] }
  | _ => none }
def HyperVerifiesWrongFalsely : Prop := hyperVerifiesRow.holds Tryd.pinned (OpenSpec.ofChange hyperVerifiesWrong)

/-- 'planchetlaw11.HyperMeets': WHATEVER THE INPUT: true; the input reads as it did. -/
def hyperMeetsSpec : ChangeSpec := { name := "hyperMeets", fn := fun _ => fun
  | [d1, d2, d3, d4] => { results := [.lit (.bool true)], args := [d1, d2, d3, d4] }
  | _ => none }
def hyperMeetsRow : OpenClaim := { program := "ytjkfbeillmeomaadoor", sum := "93d9d5e33b5f3931b050d7aaa22ff391cbec8c0d1641dd4934fa9b1e8b9e636a", func := "planchet/planchetlaw11.HyperMeets", spec := "hyperMeets", unfollowed := true, recurses := true, named := ["planchet/sha.start", "planchet/sha.constants"], apart := false, laid := [("planchet/sha.start", laid_planchet_sha_start), ("planchet/sha.constants", laid_planchet_sha_constants)] }
def HyperMeetsSaid : Prop := hyperMeetsRow.holds Tryd.pinned (OpenSpec.ofChange hyperMeetsSpec)

/-- ITS FALSE NEIGHBOUR: 'it returns false'. Refute it at one input. -/
def hyperMeetsWrong : ChangeSpec := { name := "hyperMeets", fn := fun _ => fun
  | [d1, d2, d3, d4] => { results := [.lit (.bool false)], args := [d1, d2, d3, d4] }
  | _ => none }
def HyperMeetsWrongFalsely : Prop := hyperMeetsRow.holds Tryd.pinned (OpenSpec.ofChange hyperMeetsWrong)

/-- 'planchetlaw16.CommitIndices': WHATEVER THE INPUT: true; the input reads as it did. -/
def commitIndicesSpec : ChangeSpec := { name := "commitIndices", fn := fun _ => fun
  | [d1, d2, d3, d4, d5] => { results := [.lit (.bool true)], args := [d1, d2, d3, d4, d5] }
  | _ => none }
def commitIndicesRow : OpenClaim := { program := "ytjkfbeillmeomaadoor", sum := "93d9d5e33b5f3931b050d7aaa22ff391cbec8c0d1641dd4934fa9b1e8b9e636a", func := "planchet/planchetlaw16.CommitIndices", spec := "commitIndices", named := ["planchet/sha.start", "planchet/sha.constants"], apart := false, laid := [("planchet/sha.start", laid_planchet_sha_start), ("planchet/sha.constants", laid_planchet_sha_constants)] }
def CommitIndicesSaid : Prop := commitIndicesRow.holds Tryd.pinned (OpenSpec.ofChange commitIndicesSpec)

/-- ITS FALSE NEIGHBOUR: 'it returns false'. Refute it at one input. -/
def commitIndicesWrong : ChangeSpec := { name := "commitIndices", fn := fun _ => fun
  | [d1, d2, d3, d4, d5] => { results := [.lit (.bool false)], args := [d1, d2, d3, d4, d5] }
  | _ => none }
def CommitIndicesWrongFalsely : Prop := commitIndicesRow.holds Tryd.pinned (OpenSpec.ofChange commitIndicesWrong)

/-- 'planchetlaw16.CommitValues': WHATEVER THE INPUT: true; the input reads as it did. -/
def commitValuesSpec : ChangeSpec := { name := "commitValues", fn := fun _ => fun
  | [d1, d2, d3, d4] => { results := [.lit (.bool true)], args := [d1, d2, d3, d4] }
  | _ => none }
def commitValuesRow : OpenClaim := { program := "ytjkfbeillmeomaadoor", sum := "93d9d5e33b5f3931b050d7aaa22ff391cbec8c0d1641dd4934fa9b1e8b9e636a", func := "planchet/planchetlaw16.CommitValues", spec := "commitValues", named := ["planchet/sha.start", "planchet/sha.constants"], apart := false, laid := [("planchet/sha.start", laid_planchet_sha_start), ("planchet/sha.constants", laid_planchet_sha_constants)] }
def CommitValuesSaid : Prop := commitValuesRow.holds Tryd.pinned (OpenSpec.ofChange commitValuesSpec)

/-- ITS FALSE NEIGHBOUR: 'it returns false'. Refute it at one input. -/
def commitValuesWrong : ChangeSpec := { name := "commitValues", fn := fun _ => fun
  | [d1, d2, d3, d4] => { results := [.lit (.bool false)], args := [d1, d2, d3, d4] }
  | _ => none }
def CommitValuesWrongFalsely : Prop := commitValuesRow.holds Tryd.pinned (OpenSpec.ofChange commitValuesWrong)

/- THE SECOND FORM. 'bulk': how many values and letters a reading holds, each counted each time it is reached (what is shared counts as often as it is met; a slice's spare places count too). A statement '..UptoSaid' is the law's where the arguments, and the package variables that the reading takes, are together of bulk at most 1048576: NARROWER than '..Said'. Prove '..Said' where nothing that the law and all that it calls make is longer than what came in: it says more and counts as full. Else prove '..UptoSaid'. A law counts once. -/
mutual
def uptoBulk {H : Type} : DataW H → Nat
  | .lit (.string bytes) => bytes.length + 1
  | .lit _ => 1
  | .nil => 1
  | .ptr d => uptoBulk d + 1
  | .slice elems spare => uptoBulkAll elems + uptoBulkAll spare + 1
  | .agg parts => uptoBulkAll parts + 1
  | .iface _ d => uptoBulk d + 1
  | .map entries => uptoBulkEntries entries + 1
  | .held _ => 1
def uptoBulkAll {H : Type} : List (DataW H) → Nat
  | [] => 0
  | d :: r => uptoBulk d + uptoBulkAll r
def uptoBulkEntries {H : Type} : List (Lit × DataW H) → Nat
  | [] => 0
  | x :: r => uptoBulkEntry x + uptoBulkEntries r
def uptoBulkEntry {H : Type} : Lit × DataW H → Nat
  | (.string bytes, d) => bytes.length + uptoBulk d + 1
  | (_, d) => uptoBulk d + 1
 end
def uptoSmall : (H : Type) → List (DataW H) → Bool := fun _ ds => decide (uptoBulkAll ds ≤ 1048576)
def OpenSpec.upto (s : _root_.Go.ChangeSpec) : _root_.Go.OpenSpec := { _root_.Go.OpenSpec.ofChange s with cond := some uptoSmall }

/-- 'planchetlaw08.WotsKeys', WHERE WHAT IT READS IS OF BULK AT MOST 1048576: true; the input reads as it did. -/
def wotsKeysUptoRow : OpenClaim := { program := "ytjkfbeillmeomaadoor", sum := "93d9d5e33b5f3931b050d7aaa22ff391cbec8c0d1641dd4934fa9b1e8b9e636a", func := "planchet/planchetlaw08.WotsKeys", spec := "wotsKeys", unfollowed := true, recurses := true, named := ["planchet/sha.start", "planchet/sha.constants"], apart := false, laid := [("planchet/sha.start", laid_planchet_sha_start), ("planchet/sha.constants", laid_planchet_sha_constants)], narrowed := true }
def WotsKeysUptoSaid : Prop := wotsKeysUptoRow.holds Tryd.pinned (OpenSpec.upto wotsKeysSpec)

/-- 'planchetlaw08.WotsSigns', WHERE WHAT IT READS IS OF BULK AT MOST 1048576: true; the input reads as it did. -/
def wotsSignsUptoRow : OpenClaim := { program := "ytjkfbeillmeomaadoor", sum := "93d9d5e33b5f3931b050d7aaa22ff391cbec8c0d1641dd4934fa9b1e8b9e636a", func := "planchet/planchetlaw08.WotsSigns", spec := "wotsSigns", unfollowed := true, recurses := true, named := ["planchet/sha.start", "planchet/sha.constants"], apart := false, laid := [("planchet/sha.start", laid_planchet_sha_start), ("planchet/sha.constants", laid_planchet_sha_constants)], narrowed := true }
def WotsSignsUptoSaid : Prop := wotsSignsUptoRow.holds Tryd.pinned (OpenSpec.upto wotsSignsSpec)

/-- 'planchetlaw08.WotsLeads', WHERE WHAT IT READS IS OF BULK AT MOST 1048576: true; the input reads as it did. -/
def wotsLeadsUptoRow : OpenClaim := { program := "ytjkfbeillmeomaadoor", sum := "93d9d5e33b5f3931b050d7aaa22ff391cbec8c0d1641dd4934fa9b1e8b9e636a", func := "planchet/planchetlaw08.WotsLeads", spec := "wotsLeads", unfollowed := true, recurses := true, named := ["planchet/sha.start", "planchet/sha.constants"], apart := false, laid := [("planchet/sha.start", laid_planchet_sha_start), ("planchet/sha.constants", laid_planchet_sha_constants)], narrowed := true }
def WotsLeadsUptoSaid : Prop := wotsLeadsUptoRow.holds Tryd.pinned (OpenSpec.upto wotsLeadsSpec)

/-- 'planchetlaw08.WotsMeets', WHERE WHAT IT READS IS OF BULK AT MOST 1048576: true; the input reads as it did. -/
def wotsMeetsUptoRow : OpenClaim := { program := "ytjkfbeillmeomaadoor", sum := "93d9d5e33b5f3931b050d7aaa22ff391cbec8c0d1641dd4934fa9b1e8b9e636a", func := "planchet/planchetlaw08.WotsMeets", spec := "wotsMeets", unfollowed := true, recurses := true, named := ["planchet/sha.start", "planchet/sha.constants"], apart := false, laid := [("planchet/sha.start", laid_planchet_sha_start), ("planchet/sha.constants", laid_planchet_sha_constants)], narrowed := true }
def WotsMeetsUptoSaid : Prop := wotsMeetsUptoRow.holds Tryd.pinned (OpenSpec.upto wotsMeetsSpec)

/-- 'planchetlaw09.LtreeMakes', WHERE WHAT IT READS IS OF BULK AT MOST 1048576: true; the input reads as it did. -/
def ltreeMakesUptoRow : OpenClaim := { program := "ytjkfbeillmeomaadoor", sum := "93d9d5e33b5f3931b050d7aaa22ff391cbec8c0d1641dd4934fa9b1e8b9e636a", func := "planchet/planchetlaw09.LtreeMakes", spec := "ltreeMakes", recurses := true, named := ["planchet/sha.start", "planchet/sha.constants"], apart := false, laid := [("planchet/sha.start", laid_planchet_sha_start), ("planchet/sha.constants", laid_planchet_sha_constants)], narrowed := true }
def LtreeMakesUptoSaid : Prop := ltreeMakesUptoRow.holds Tryd.pinned (OpenSpec.upto ltreeMakesSpec)

/-- 'planchetlaw09.LtreeFew', WHERE WHAT IT READS IS OF BULK AT MOST 1048576: true; the input reads as it did. -/
def ltreeFewUptoRow : OpenClaim := { program := "ytjkfbeillmeomaadoor", sum := "93d9d5e33b5f3931b050d7aaa22ff391cbec8c0d1641dd4934fa9b1e8b9e636a", func := "planchet/planchetlaw09.LtreeFew", spec := "ltreeFew", named := ["planchet/sha.start", "planchet/sha.constants"], apart := false, laid := [("planchet/sha.start", laid_planchet_sha_start), ("planchet/sha.constants", laid_planchet_sha_constants)], narrowed := true }
def LtreeFewUptoSaid : Prop := ltreeFewUptoRow.holds Tryd.pinned (OpenSpec.upto ltreeFewSpec)

/-- 'planchetlaw10.TreeBuilds', WHERE WHAT IT READS IS OF BULK AT MOST 1048576: true; the input reads as it did. -/
def treeBuildsUptoRow : OpenClaim := { program := "ytjkfbeillmeomaadoor", sum := "93d9d5e33b5f3931b050d7aaa22ff391cbec8c0d1641dd4934fa9b1e8b9e636a", func := "planchet/planchetlaw10.TreeBuilds", spec := "treeBuilds", unfollowed := true, recurses := true, named := ["planchet/sha.start", "planchet/sha.constants"], apart := false, laid := [("planchet/sha.start", laid_planchet_sha_start), ("planchet/sha.constants", laid_planchet_sha_constants)], narrowed := true }
def TreeBuildsUptoSaid : Prop := treeBuildsUptoRow.holds Tryd.pinned (OpenSpec.upto treeBuildsSpec)

/-- 'planchetlaw10.TreeClimbs', WHERE WHAT IT READS IS OF BULK AT MOST 1048576: true; the input reads as it did. -/
def treeClimbsUptoRow : OpenClaim := { program := "ytjkfbeillmeomaadoor", sum := "93d9d5e33b5f3931b050d7aaa22ff391cbec8c0d1641dd4934fa9b1e8b9e636a", func := "planchet/planchetlaw10.TreeClimbs", spec := "treeClimbs", unfollowed := true, recurses := true, named := ["planchet/sha.start", "planchet/sha.constants"], apart := false, laid := [("planchet/sha.start", laid_planchet_sha_start), ("planchet/sha.constants", laid_planchet_sha_constants)], narrowed := true }
def TreeClimbsUptoSaid : Prop := treeClimbsUptoRow.holds Tryd.pinned (OpenSpec.upto treeClimbsSpec)

/-- 'planchetlaw10.TreeMeets', WHERE WHAT IT READS IS OF BULK AT MOST 1048576: true; the input reads as it did. -/
def treeMeetsUptoRow : OpenClaim := { program := "ytjkfbeillmeomaadoor", sum := "93d9d5e33b5f3931b050d7aaa22ff391cbec8c0d1641dd4934fa9b1e8b9e636a", func := "planchet/planchetlaw10.TreeMeets", spec := "treeMeets", unfollowed := true, recurses := true, named := ["planchet/sha.start", "planchet/sha.constants"], apart := false, laid := [("planchet/sha.start", laid_planchet_sha_start), ("planchet/sha.constants", laid_planchet_sha_constants)], narrowed := true }
def TreeMeetsUptoSaid : Prop := treeMeetsUptoRow.holds Tryd.pinned (OpenSpec.upto treeMeetsSpec)

/-- 'planchetlaw11.HyperKeys', WHERE WHAT IT READS IS OF BULK AT MOST 1048576: true; the input reads as it did. -/
def hyperKeysUptoRow : OpenClaim := { program := "ytjkfbeillmeomaadoor", sum := "93d9d5e33b5f3931b050d7aaa22ff391cbec8c0d1641dd4934fa9b1e8b9e636a", func := "planchet/planchetlaw11.HyperKeys", spec := "hyperKeys", unfollowed := true, recurses := true, named := ["planchet/sha.start", "planchet/sha.constants"], apart := false, laid := [("planchet/sha.start", laid_planchet_sha_start), ("planchet/sha.constants", laid_planchet_sha_constants)], narrowed := true }
def HyperKeysUptoSaid : Prop := hyperKeysUptoRow.holds Tryd.pinned (OpenSpec.upto hyperKeysSpec)

/-- 'planchetlaw11.HyperVerifies', WHERE WHAT IT READS IS OF BULK AT MOST 1048576: true; the input reads as it did. -/
def hyperVerifiesUptoRow : OpenClaim := { program := "ytjkfbeillmeomaadoor", sum := "93d9d5e33b5f3931b050d7aaa22ff391cbec8c0d1641dd4934fa9b1e8b9e636a", func := "planchet/planchetlaw11.HyperVerifies", spec := "hyperVerifies", unfollowed := true, recurses := true, named := ["planchet/sha.start", "planchet/sha.constants"], apart := false, laid := [("planchet/sha.start", laid_planchet_sha_start), ("planchet/sha.constants", laid_planchet_sha_constants)], narrowed := true }
def HyperVerifiesUptoSaid : Prop := hyperVerifiesUptoRow.holds Tryd.pinned (OpenSpec.upto hyperVerifiesSpec)

/-- 'planchetlaw11.HyperMeets', WHERE WHAT IT READS IS OF BULK AT MOST 1048576: true; the input reads as it did. -/
def hyperMeetsUptoRow : OpenClaim := { program := "ytjkfbeillmeomaadoor", sum := "93d9d5e33b5f3931b050d7aaa22ff391cbec8c0d1641dd4934fa9b1e8b9e636a", func := "planchet/planchetlaw11.HyperMeets", spec := "hyperMeets", unfollowed := true, recurses := true, named := ["planchet/sha.start", "planchet/sha.constants"], apart := false, laid := [("planchet/sha.start", laid_planchet_sha_start), ("planchet/sha.constants", laid_planchet_sha_constants)], narrowed := true }
def HyperMeetsUptoSaid : Prop := hyperMeetsUptoRow.holds Tryd.pinned (OpenSpec.upto hyperMeetsSpec)

/-- 'planchetlaw16.CommitIndices', WHERE WHAT IT READS IS OF BULK AT MOST 1048576: true; the input reads as it did. -/
def commitIndicesUptoRow : OpenClaim := { program := "ytjkfbeillmeomaadoor", sum := "93d9d5e33b5f3931b050d7aaa22ff391cbec8c0d1641dd4934fa9b1e8b9e636a", func := "planchet/planchetlaw16.CommitIndices", spec := "commitIndices", named := ["planchet/sha.start", "planchet/sha.constants"], apart := false, laid := [("planchet/sha.start", laid_planchet_sha_start), ("planchet/sha.constants", laid_planchet_sha_constants)], narrowed := true }
def CommitIndicesUptoSaid : Prop := commitIndicesUptoRow.holds Tryd.pinned (OpenSpec.upto commitIndicesSpec)

/-- 'planchetlaw16.CommitValues', WHERE WHAT IT READS IS OF BULK AT MOST 1048576: true; the input reads as it did. -/
def commitValuesUptoRow : OpenClaim := { program := "ytjkfbeillmeomaadoor", sum := "93d9d5e33b5f3931b050d7aaa22ff391cbec8c0d1641dd4934fa9b1e8b9e636a", func := "planchet/planchetlaw16.CommitValues", spec := "commitValues", named := ["planchet/sha.start", "planchet/sha.constants"], apart := false, laid := [("planchet/sha.start", laid_planchet_sha_start), ("planchet/sha.constants", laid_planchet_sha_constants)], narrowed := true }
def CommitValuesUptoSaid : Prop := commitValuesUptoRow.holds Tryd.pinned (OpenSpec.upto commitValuesSpec)

end Rows
end Go.Proofs.YtjkfbeillmeomaaDoor
