/-
  NARROWER THAN 'FOR EVERY INPUT', by the rows' own cells (each row's printed sentence says how): ExtractTrails: laid · ExtractParts: laid · ExtractTrees: laid · ExtractValues: laid · ExtractTexts: laid · ExtractLogs: laid.
  DERIVED. THE GIVEN ROWS OF THIS SEAT. 6 by the template 'for every input the law returns true; each argument reads behind the call as it read before'; 0 by the template 'total and deterministic' (their statements: YtkakoiaahgchmaaDoorTotals.lean).
  GIVEN WITH THE SEED: the statements are not yours to turn. If you find one false, say at which input.
  Laid BY PROGRAM, IN A SANDBOX (cutbox-rows.mjs): the forced cells as the released guide's own fill.sh prints them over the translation 3075bd0a41665bfb… (all of the seat's roots in one cut). By AI agents, Wed Nov 11 2026. No macro, syntax, notation, axiom, sorry.
-/
import Derived.Test.YtkakoiaahgchmaaDoorChecked
import GoSem.Claim
import GoSem.ClaimJoined
import GoSem.ClaimMapViews
import Derived.JoinedTies
import Derived.KernelRfl
namespace Go.Proofs.YtkakoiaahgchmaaDoor
/- THE CELL 'sum', in the pinned program and in every row, IS THE sha256 OF THE DUMP (.gsa) THAT YtkakoiaahgchmaaDoorProg.lean LOADS. Nothing in Lean hashes anything: it is a label: what it is worth is what the hold of that sum in a sandbox is worth. -/
noncomputable def Tryd.pinned : Pinned := { name := "ytkakoiaahgchmaadoor", sum := "3075bd0a41665bfb6604f6fb976c7b5bfdaba158b9604c42c12291faf1164d80", checked := Tryd.checked }
namespace Rows
def none {H : Type} : Left H := { results := [], args := [] }

/- WHAT THE LISTED PACKAGE-LEVEL VARIABLES READ AS WHEN THE CALL BEGINS. Each datum BY PROGRAM (the guide's laid-datum.mjs) off the statement by which the dump's own 'gosem.cut.vars' lays the variable. In a bare row this is a premise. The card (YtkakoiaahgchmaaDoorCards.lean) ties it to the program's text. -/
def laid_planchet_sha_start {H : Type} : DataW H := .agg [.lit (.int .u32 1779033703), .lit (.int .u32 3144134277), .lit (.int .u32 1013904242), .lit (.int .u32 2773480762), .lit (.int .u32 1359893119), .lit (.int .u32 2600822924), .lit (.int .u32 528734635), .lit (.int .u32 1541459225)]
def laid_planchet_sha_constants {H : Type} : DataW H := .agg [.lit (.int .u32 1116352408), .lit (.int .u32 1899447441), .lit (.int .u32 3049323471), .lit (.int .u32 3921009573), .lit (.int .u32 961987163), .lit (.int .u32 1508970993), .lit (.int .u32 2453635748), .lit (.int .u32 2870763221), .lit (.int .u32 3624381080), .lit (.int .u32 310598401), .lit (.int .u32 607225278), .lit (.int .u32 1426881987), .lit (.int .u32 1925078388), .lit (.int .u32 2162078206), .lit (.int .u32 2614888103), .lit (.int .u32 3248222580), .lit (.int .u32 3835390401), .lit (.int .u32 4022224774), .lit (.int .u32 264347078), .lit (.int .u32 604807628), .lit (.int .u32 770255983), .lit (.int .u32 1249150122), .lit (.int .u32 1555081692), .lit (.int .u32 1996064986), .lit (.int .u32 2554220882), .lit (.int .u32 2821834349), .lit (.int .u32 2952996808), .lit (.int .u32 3210313671), .lit (.int .u32 3336571891), .lit (.int .u32 3584528711), .lit (.int .u32 113926993), .lit (.int .u32 338241895), .lit (.int .u32 666307205), .lit (.int .u32 773529912), .lit (.int .u32 1294757372), .lit (.int .u32 1396182291), .lit (.int .u32 1695183700), .lit (.int .u32 1986661051), .lit (.int .u32 2177026350), .lit (.int .u32 2456956037), .lit (.int .u32 2730485921), .lit (.int .u32 2820302411), .lit (.int .u32 3259730800), .lit (.int .u32 3345764771), .lit (.int .u32 3516065817), .lit (.int .u32 3600352804), .lit (.int .u32 4094571909), .lit (.int .u32 275423344), .lit (.int .u32 430227734), .lit (.int .u32 506948616), .lit (.int .u32 659060556), .lit (.int .u32 883997877), .lit (.int .u32 958139571), .lit (.int .u32 1322822218), .lit (.int .u32 1537002063), .lit (.int .u32 1747873779), .lit (.int .u32 1955562222), .lit (.int .u32 2024104815), .lit (.int .u32 2227730452), .lit (.int .u32 2361852424), .lit (.int .u32 2428436474), .lit (.int .u32 2756734187), .lit (.int .u32 3204031479), .lit (.int .u32 3329325298)]

/-- 'planchetlaw23.ExtractTrails': WHATEVER THE INPUT: true; the input reads as it did. -/
def extractTrailsSpec : ChangeSpec := { name := "extractTrails", fn := fun _ => fun
  | [d1, d2, d3, d4, d5, d6] => { results := [.lit (.bool true)], args := [d1, d2, d3, d4, d5, d6] }
  | _ => none }
def extractTrailsRow : OpenClaim := { program := "ytkakoiaahgchmaadoor", sum := "3075bd0a41665bfb6604f6fb976c7b5bfdaba158b9604c42c12291faf1164d80", func := "planchet/planchetlaw23.ExtractTrails", spec := "extractTrails", unfollowed := true, recurses := true, named := ["planchet/sha.start", "planchet/sha.constants"], apart := false, laid := [("planchet/sha.start", laid_planchet_sha_start), ("planchet/sha.constants", laid_planchet_sha_constants)] }
def ExtractTrailsSaid : Prop := extractTrailsRow.holds Tryd.pinned (OpenSpec.ofChange extractTrailsSpec)

/-- ITS FALSE NEIGHBOUR: 'it returns false'. Refute it at one input. -/
def extractTrailsWrong : ChangeSpec := { name := "extractTrails", fn := fun _ => fun
  | [d1, d2, d3, d4, d5, d6] => { results := [.lit (.bool false)], args := [d1, d2, d3, d4, d5, d6] }
  | _ => none }
def ExtractTrailsWrongFalsely : Prop := extractTrailsRow.holds Tryd.pinned (OpenSpec.ofChange extractTrailsWrong)

/-- 'planchetlaw23.ExtractParts': WHATEVER THE INPUT: true; the input reads as it did. -/
def extractPartsSpec : ChangeSpec := { name := "extractParts", fn := fun _ => fun
  | [d1, d2] => { results := [.lit (.bool true)], args := [d1, d2] }
  | _ => none }
def extractPartsRow : OpenClaim := { program := "ytkakoiaahgchmaadoor", sum := "3075bd0a41665bfb6604f6fb976c7b5bfdaba158b9604c42c12291faf1164d80", func := "planchet/planchetlaw23.ExtractParts", spec := "extractParts", unfollowed := true, recurses := true, named := ["planchet/sha.start", "planchet/sha.constants"], apart := false, laid := [("planchet/sha.start", laid_planchet_sha_start), ("planchet/sha.constants", laid_planchet_sha_constants)] }
def ExtractPartsSaid : Prop := extractPartsRow.holds Tryd.pinned (OpenSpec.ofChange extractPartsSpec)

/-- ITS FALSE NEIGHBOUR: 'it returns false'. Refute it at one input. -/
def extractPartsWrong : ChangeSpec := { name := "extractParts", fn := fun _ => fun
  | [d1, d2] => { results := [.lit (.bool false)], args := [d1, d2] }
  | _ => none }
def ExtractPartsWrongFalsely : Prop := extractPartsRow.holds Tryd.pinned (OpenSpec.ofChange extractPartsWrong)

/-- 'planchetlaw23.ExtractTrees': WHATEVER THE INPUT: true; the input reads as it did. -/
def extractTreesSpec : ChangeSpec := { name := "extractTrees", fn := fun _ => fun
  | [d1, d2, d3, d4] => { results := [.lit (.bool true)], args := [d1, d2, d3, d4] }
  | _ => none }
def extractTreesRow : OpenClaim := { program := "ytkakoiaahgchmaadoor", sum := "3075bd0a41665bfb6604f6fb976c7b5bfdaba158b9604c42c12291faf1164d80", func := "planchet/planchetlaw23.ExtractTrees", spec := "extractTrees", unfollowed := true, recurses := true, named := ["planchet/sha.start", "planchet/sha.constants"], apart := false, laid := [("planchet/sha.start", laid_planchet_sha_start), ("planchet/sha.constants", laid_planchet_sha_constants)] }
def ExtractTreesSaid : Prop := extractTreesRow.holds Tryd.pinned (OpenSpec.ofChange extractTreesSpec)

/-- ITS FALSE NEIGHBOUR: 'it returns false'. Refute it at one input. -/
def extractTreesWrong : ChangeSpec := { name := "extractTrees", fn := fun _ => fun
  | [d1, d2, d3, d4] => { results := [.lit (.bool false)], args := [d1, d2, d3, d4] }
  | _ => none }
def ExtractTreesWrongFalsely : Prop := extractTreesRow.holds Tryd.pinned (OpenSpec.ofChange extractTreesWrong)

/-- 'planchetlaw23.ExtractValues': WHATEVER THE INPUT: true; the input reads as it did. -/
def extractValuesSpec : ChangeSpec := { name := "extractValues", fn := fun _ => fun
  | [d1, d2, d3, d4, d5] => { results := [.lit (.bool true)], args := [d1, d2, d3, d4, d5] }
  | _ => none }
def extractValuesRow : OpenClaim := { program := "ytkakoiaahgchmaadoor", sum := "3075bd0a41665bfb6604f6fb976c7b5bfdaba158b9604c42c12291faf1164d80", func := "planchet/planchetlaw23.ExtractValues", spec := "extractValues", unfollowed := true, recurses := true, named := ["planchet/sha.start", "planchet/sha.constants"], apart := false, laid := [("planchet/sha.start", laid_planchet_sha_start), ("planchet/sha.constants", laid_planchet_sha_constants)] }
def ExtractValuesSaid : Prop := extractValuesRow.holds Tryd.pinned (OpenSpec.ofChange extractValuesSpec)

/-- ITS FALSE NEIGHBOUR: 'it returns false'. Refute it at one input. -/
def extractValuesWrong : ChangeSpec := { name := "extractValues", fn := fun _ => fun
  | [d1, d2, d3, d4, d5] => { results := [.lit (.bool false)], args := [d1, d2, d3, d4, d5] }
  | _ => none }
def ExtractValuesWrongFalsely : Prop := extractValuesRow.holds Tryd.pinned (OpenSpec.ofChange extractValuesWrong)

/-- 'planchetlaw23.ExtractTexts': WHATEVER THE INPUT: true; the input reads as it did. -/
def extractTextsSpec : ChangeSpec := { name := "extractTexts", fn := fun _ => fun
  | [d1, d2, d3, d4, d5, d6, d7] => { results := [.lit (.bool true)], args := [d1, d2, d3, d4, d5, d6, d7] }
  | _ => none }
def extractTextsRow : OpenClaim := { program := "ytkakoiaahgchmaadoor", sum := "3075bd0a41665bfb6604f6fb976c7b5bfdaba158b9604c42c12291faf1164d80", func := "planchet/planchetlaw23.ExtractTexts", spec := "extractTexts", unfollowed := true, recurses := true, named := ["planchet/sha.start", "planchet/sha.constants"], apart := false, laid := [("planchet/sha.start", laid_planchet_sha_start), ("planchet/sha.constants", laid_planchet_sha_constants)] }
def ExtractTextsSaid : Prop := extractTextsRow.holds Tryd.pinned (OpenSpec.ofChange extractTextsSpec)

/-- ITS FALSE NEIGHBOUR: 'it returns false'. Refute it at one input. -/
def extractTextsWrong : ChangeSpec := { name := "extractTexts", fn := fun _ => fun
  | [d1, d2, d3, d4, d5, d6, d7] => { results := [.lit (.bool false)], args := [d1, d2, d3, d4, d5, d6, d7] }
  | _ => none }
def ExtractTextsWrongFalsely : Prop := extractTextsRow.holds Tryd.pinned (OpenSpec.ofChange extractTextsWrong)

/-- 'planchetlaw23.ExtractLogs': WHATEVER THE INPUT: true; the input reads as it did. -/
def extractLogsSpec : ChangeSpec := { name := "extractLogs", fn := fun _ => fun
  | [d1, d2, d3, d4, d5, d6, d7] => { results := [.lit (.bool true)], args := [d1, d2, d3, d4, d5, d6, d7] }
  | _ => none }
def extractLogsRow : OpenClaim := { program := "ytkakoiaahgchmaadoor", sum := "3075bd0a41665bfb6604f6fb976c7b5bfdaba158b9604c42c12291faf1164d80", func := "planchet/planchetlaw23.ExtractLogs", spec := "extractLogs", unfollowed := true, recurses := true, named := ["planchet/sha.start", "planchet/sha.constants"], apart := false, laid := [("planchet/sha.start", laid_planchet_sha_start), ("planchet/sha.constants", laid_planchet_sha_constants)] }
def ExtractLogsSaid : Prop := extractLogsRow.holds Tryd.pinned (OpenSpec.ofChange extractLogsSpec)

/-- ITS FALSE NEIGHBOUR: 'it returns false'. Refute it at one input. -/
def extractLogsWrong : ChangeSpec := { name := "extractLogs", fn := fun _ => fun
  | [d1, d2, d3, d4, d5, d6, d7] => { results := [.lit (.bool false)], args := [d1, d2, d3, d4, d5, d6, d7] }
  | _ => none }
def ExtractLogsWrongFalsely : Prop := extractLogsRow.holds Tryd.pinned (OpenSpec.ofChange extractLogsWrong)

/- THE SECOND FORM. 'bulk': how many values and letters a reading holds, each counted each time it is reached (what is shared counts as often as it is met; a slice's spare places count too). A statement '..UptoSaid' is the law's where the arguments, and the package variables that the reading takes, are together of bulk at most 1048576: NARROWER than '..Said'. Prove '..Said' where nothing that the law and all that it calls make is longer than what came in: it says more and counts as full. Else prove '..UptoSaid'. A law counts once. -/
mutual
def uptoBulk {H : Type} : DataW H → Nat
  | .lit (.string bytes) => bytes.length + 1
  | .lit _ => 1
  | .nil => 1
  | .ptr d => uptoBulk d + 1
  | .slice elems spare => uptoBulkAll elems + uptoBulkAll spare + 1
  | .agg parts => uptoBulkAll parts + 1
  | .iface _ d => uptoBulk d + 1
  | .map entries => uptoBulkEntries entries + 1
  | .held _ => 1
def uptoBulkAll {H : Type} : List (DataW H) → Nat
  | [] => 0
  | d :: r => uptoBulk d + uptoBulkAll r
def uptoBulkEntries {H : Type} : List (Lit × DataW H) → Nat
  | [] => 0
  | x :: r => uptoBulkEntry x + uptoBulkEntries r
def uptoBulkEntry {H : Type} : Lit × DataW H → Nat
  | (.string bytes, d) => bytes.length + uptoBulk d + 1
  | (_, d) => uptoBulk d + 1
 end
def uptoSmall : (H : Type) → List (DataW H) → Bool := fun _ ds => decide (uptoBulkAll ds ≤ 1048576)
def OpenSpec.upto (s : _root_.Go.ChangeSpec) : _root_.Go.OpenSpec := { _root_.Go.OpenSpec.ofChange s with cond := some uptoSmall }

/-- 'planchetlaw23.ExtractTrails', WHERE WHAT IT READS IS OF BULK AT MOST 1048576: true; the input reads as it did. -/
def extractTrailsUptoRow : OpenClaim := { program := "ytkakoiaahgchmaadoor", sum := "3075bd0a41665bfb6604f6fb976c7b5bfdaba158b9604c42c12291faf1164d80", func := "planchet/planchetlaw23.ExtractTrails", spec := "extractTrails", unfollowed := true, recurses := true, named := ["planchet/sha.start", "planchet/sha.constants"], apart := false, laid := [("planchet/sha.start", laid_planchet_sha_start), ("planchet/sha.constants", laid_planchet_sha_constants)], narrowed := true }
def ExtractTrailsUptoSaid : Prop := extractTrailsUptoRow.holds Tryd.pinned (OpenSpec.upto extractTrailsSpec)

/-- 'planchetlaw23.ExtractParts', WHERE WHAT IT READS IS OF BULK AT MOST 1048576: true; the input reads as it did. -/
def extractPartsUptoRow : OpenClaim := { program := "ytkakoiaahgchmaadoor", sum := "3075bd0a41665bfb6604f6fb976c7b5bfdaba158b9604c42c12291faf1164d80", func := "planchet/planchetlaw23.ExtractParts", spec := "extractParts", unfollowed := true, recurses := true, named := ["planchet/sha.start", "planchet/sha.constants"], apart := false, laid := [("planchet/sha.start", laid_planchet_sha_start), ("planchet/sha.constants", laid_planchet_sha_constants)], narrowed := true }
def ExtractPartsUptoSaid : Prop := extractPartsUptoRow.holds Tryd.pinned (OpenSpec.upto extractPartsSpec)

/-- 'planchetlaw23.ExtractTrees', WHERE WHAT IT READS IS OF BULK AT MOST 1048576: true; the input reads as it did. -/
def extractTreesUptoRow : OpenClaim := { program := "ytkakoiaahgchmaadoor", sum := "3075bd0a41665bfb6604f6fb976c7b5bfdaba158b9604c42c12291faf1164d80", func := "planchet/planchetlaw23.ExtractTrees", spec := "extractTrees", unfollowed := true, recurses := true, named := ["planchet/sha.start", "planchet/sha.constants"], apart := false, laid := [("planchet/sha.start", laid_planchet_sha_start), ("planchet/sha.constants", laid_planchet_sha_constants)], narrowed := true }
def ExtractTreesUptoSaid : Prop := extractTreesUptoRow.holds Tryd.pinned (OpenSpec.upto extractTreesSpec)

/-- 'planchetlaw23.ExtractValues', WHERE WHAT IT READS IS OF BULK AT MOST 1048576: true; the input reads as it did. -/
def extractValuesUptoRow : OpenClaim := { program := "ytkakoiaahgchmaadoor", sum := "3075bd0a41665bfb6604f6fb976c7b5bfdaba158b9604c42c12291faf1164d80", func := "planchet/planchetlaw23.ExtractValues", spec := "extractValues", unfollowed := true, recurses := true, named := ["planchet/sha.start", "planchet/sha.constants"], apart := false, laid := [("planchet/sha.start", laid_planchet_sha_start), ("planchet/sha.constants", laid_planchet_sha_constants)], narrowed := true }
def ExtractValuesUptoSaid : Prop := extractValuesUptoRow.holds Tryd.pinned (OpenSpec.upto extractValuesSpec)

/-- 'planchetlaw23.ExtractTexts', WHERE WHAT IT READS IS OF BULK AT MOST 1048576: true; the input reads as it did. -/
def extractTextsUptoRow : OpenClaim := { program := "ytkakoiaahgchmaadoor", sum := "3075bd0a41665bfb6604f6fb976c7b5bfdaba158b9604c42c12291faf1164d80", func := "planchet/planchetlaw23.ExtractTexts", spec := "extractTexts", unfollowed := true, recurses := true, named := ["planchet/sha.start", "planchet/sha.constants"], apart := false, laid := [("planchet/sha.start", laid_planchet_sha_start), ("planchet/sha.constants", laid_planchet_sha_constants)], narrowed := true }
def ExtractTextsUptoSaid : Prop := extractTextsUptoRow.holds Tryd.pinned (OpenSpec.upto extractTextsSpec)

/-- 'planchetlaw23.ExtractLogs', WHERE WHAT IT READS IS OF BULK AT MOST 1048576: true; the input reads as it did. -/
def extractLogsUptoRow : OpenClaim := { program := "ytkakoiaahgchmaadoor", sum := "3075bd0a41665bfb6604f6fb976c7b5bfdaba158b9604c42c12291faf1164d80", func := "planchet/planchetlaw23.ExtractLogs", spec := "extractLogs", unfollowed := true, recurses := true, named := ["planchet/sha.start", "planchet/sha.constants"], apart := false, laid := [("planchet/sha.start", laid_planchet_sha_start), ("planchet/sha.constants", laid_planchet_sha_constants)], narrowed := true }
def ExtractLogsUptoSaid : Prop := extractLogsUptoRow.holds Tryd.pinned (OpenSpec.upto extractLogsSpec)

end Rows
end Go.Proofs.YtkakoiaahgchmaaDoor
