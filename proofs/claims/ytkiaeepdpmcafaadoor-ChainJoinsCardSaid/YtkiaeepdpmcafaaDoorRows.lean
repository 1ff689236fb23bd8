/-
  NARROWER THAN 'FOR EVERY INPUT', by the rows' own cells (each row's printed sentence says how): ShaSums: laid · ShaWrites: laid · ShaParts: laid · MacCodes: laid · MacKeys: laid · KeyedSums: laid · KeyedMessages: laid · ChainRuns: laid · ChainJoins: laid.
  DERIVED. THE GIVEN ROWS OF THIS SEAT. 9 by the template 'for every input the law returns true; each argument reads behind the call as it read before'; 0 by the template 'total and deterministic' (their statements: YtkiaeepdpmcafaaDoorTotals.lean).
  GIVEN WITH THE SEED: the statements are not yours to turn. If you find one false, say at which input.
  Laid BY PROGRAM, IN A SANDBOX (cutbox-rows.mjs): the forced cells as the released guide's own fill.sh prints them over the translation 41499714c0948839… (all of the seat's roots in one cut). By AI agents, Wed Nov 11 2026. No macro, syntax, notation, axiom, sorry.
-/
import Derived.Test.YtkiaeepdpmcafaaDoorChecked
import GoSem.Claim
import GoSem.ClaimJoined
import GoSem.ClaimMapViews
import Derived.JoinedTies
import Derived.KernelRfl
namespace Go.Proofs.YtkiaeepdpmcafaaDoor
/- THE CELL 'sum', in the pinned program and in every row, IS THE sha256 OF THE DUMP (.gsa) THAT YtkiaeepdpmcafaaDoorProg.lean LOADS. Nothing in Lean hashes anything: it is a label: what it is worth is what the hold of that sum in a sandbox is worth. -/
noncomputable def Tryd.pinned : Pinned := { name := "ytkiaeepdpmcafaadoor", sum := "41499714c0948839e2df9c2dfda59ae5b3d6a4dae5b58e98cc0788aac0a19340", checked := Tryd.checked }
namespace Rows
def none {H : Type} : Left H := { results := [], args := [] }

/- WHAT THE LISTED PACKAGE-LEVEL VARIABLES READ AS WHEN THE CALL BEGINS. Each datum BY PROGRAM (the guide's laid-datum.mjs) off the statement by which the dump's own 'gosem.cut.vars' lays the variable. In a bare row this is a premise. The card (YtkiaeepdpmcafaaDoorCards.lean) ties it to the program's text. -/
def laid_planchet_sha_start {H : Type} : DataW H := .agg [.lit (.int .u32 1779033703), .lit (.int .u32 3144134277), .lit (.int .u32 1013904242), .lit (.int .u32 2773480762), .lit (.int .u32 1359893119), .lit (.int .u32 2600822924), .lit (.int .u32 528734635), .lit (.int .u32 1541459225)]
def laid_planchet_sha_constants {H : Type} : DataW H := .agg [.lit (.int .u32 1116352408), .lit (.int .u32 1899447441), .lit (.int .u32 3049323471), .lit (.int .u32 3921009573), .lit (.int .u32 961987163), .lit (.int .u32 1508970993), .lit (.int .u32 2453635748), .lit (.int .u32 2870763221), .lit (.int .u32 3624381080), .lit (.int .u32 310598401), .lit (.int .u32 607225278), .lit (.int .u32 1426881987), .lit (.int .u32 1925078388), .lit (.int .u32 2162078206), .lit (.int .u32 2614888103), .lit (.int .u32 3248222580), .lit (.int .u32 3835390401), .lit (.int .u32 4022224774), .lit (.int .u32 264347078), .lit (.int .u32 604807628), .lit (.int .u32 770255983), .lit (.int .u32 1249150122), .lit (.int .u32 1555081692), .lit (.int .u32 1996064986), .lit (.int .u32 2554220882), .lit (.int .u32 2821834349), .lit (.int .u32 2952996808), .lit (.int .u32 3210313671), .lit (.int .u32 3336571891), .lit (.int .u32 3584528711), .lit (.int .u32 113926993), .lit (.int .u32 338241895), .lit (.int .u32 666307205), .lit (.int .u32 773529912), .lit (.int .u32 1294757372), .lit (.int .u32 1396182291), .lit (.int .u32 1695183700), .lit (.int .u32 1986661051), .lit (.int .u32 2177026350), .lit (.int .u32 2456956037), .lit (.int .u32 2730485921), .lit (.int .u32 2820302411), .lit (.int .u32 3259730800), .lit (.int .u32 3345764771), .lit (.int .u32 3516065817), .lit (.int .u32 3600352804), .lit (.int .u32 4094571909), .lit (.int .u32 275423344), .lit (.int .u32 430227734), .lit (.int .u32 506948616), .lit (.int .u32 659060556), .lit (.int .u32 883997877), .lit (.int .u32 958139571), .lit (.int .u32 1322822218), .lit (.int .u32 1537002063), .lit (.int .u32 1747873779), .lit (.int .u32 1955562222), .lit (.int .u32 2024104815), .lit (.int .u32 2227730452), .lit (.int .u32 2361852424), .lit (.int .u32 2428436474), .lit (.int .u32 2756734187), .lit (.int .u32 3204031479), .lit (.int .u32 3329325298)]

/-- 'planchetlaw01.ShaSums': WHATEVER THE INPUT: true; the input reads as it did. -/
def shaSumsSpec : ChangeSpec := { name := "shaSums", fn := fun _ => fun
  | [d] => { results := [.lit (.bool true)], args := [d] }
  | _ => none }
def shaSumsRow : OpenClaim := { program := "ytkiaeepdpmcafaadoor", sum := "41499714c0948839e2df9c2dfda59ae5b3d6a4dae5b58e98cc0788aac0a19340", func := "planchet/planchetlaw01.ShaSums", spec := "shaSums", named := ["planchet/sha.start", "planchet/sha.constants"], apart := false, laid := [("planchet/sha.start", laid_planchet_sha_start), ("planchet/sha.constants", laid_planchet_sha_constants)] }
def ShaSumsSaid : Prop := shaSumsRow.holds Tryd.pinned (OpenSpec.ofChange shaSumsSpec)

/-- ITS FALSE NEIGHBOUR: 'it returns false'. Refute it at one input. -/
def shaSumsWrong : ChangeSpec := { name := "shaSums", fn := fun _ => fun
  | [d] => { results := [.lit (.bool false)], args := [d] }
  | _ => none }
def ShaSumsWrongFalsely : Prop := shaSumsRow.holds Tryd.pinned (OpenSpec.ofChange shaSumsWrong)

/-- 'planchetlaw01.ShaWrites': WHATEVER THE INPUT: true; the input reads as it did. -/
def shaWritesSpec : ChangeSpec := { name := "shaWrites", fn := fun _ => fun
  | [d] => { results := [.lit (.bool true)], args := [d] }
  | _ => none }
def shaWritesRow : OpenClaim := { program := "ytkiaeepdpmcafaadoor", sum := "41499714c0948839e2df9c2dfda59ae5b3d6a4dae5b58e98cc0788aac0a19340", func := "planchet/planchetlaw01.ShaWrites", spec := "shaWrites", named := ["planchet/sha.start", "planchet/sha.constants"], apart := false, laid := [("planchet/sha.start", laid_planchet_sha_start), ("planchet/sha.constants", laid_planchet_sha_constants)] }
def ShaWritesSaid : Prop := shaWritesRow.holds Tryd.pinned (OpenSpec.ofChange shaWritesSpec)

/-- ITS FALSE NEIGHBOUR: 'it returns false'. Refute it at one input. -/
def shaWritesWrong : ChangeSpec := { name := "shaWrites", fn := fun _ => fun
  | [d] => { results := [.lit (.bool false)], args := [d] }
  | _ => none }
def ShaWritesWrongFalsely : Prop := shaWritesRow.holds Tryd.pinned (OpenSpec.ofChange shaWritesWrong)

/-- 'planchetlaw01.ShaParts': WHATEVER THE INPUT: true; the input reads as it did. -/
def shaPartsSpec : ChangeSpec := { name := "shaParts", fn := fun _ => fun
  | [d1, d2, d3] => { results := [.lit (.bool true)], args := [d1, d2, d3] }
  | _ => none }
def shaPartsRow : OpenClaim := { program := "ytkiaeepdpmcafaadoor", sum := "41499714c0948839e2df9c2dfda59ae5b3d6a4dae5b58e98cc0788aac0a19340", func := "planchet/planchetlaw01.ShaParts", spec := "shaParts", named := ["planchet/sha.start", "planchet/sha.constants"], apart := false, laid := [("planchet/sha.start", laid_planchet_sha_start), ("planchet/sha.constants", laid_planchet_sha_constants)] }
def ShaPartsSaid : Prop := shaPartsRow.holds Tryd.pinned (OpenSpec.ofChange shaPartsSpec)

/-- ITS FALSE NEIGHBOUR: 'it returns false'. Refute it at one input. -/
def shaPartsWrong : ChangeSpec := { name := "shaParts", fn := fun _ => fun
  | [d1, d2, d3] => { results := [.lit (.bool false)], args := [d1, d2, d3] }
  | _ => none }
def ShaPartsWrongFalsely : Prop := shaPartsRow.holds Tryd.pinned (OpenSpec.ofChange shaPartsWrong)

/-- 'planchetlaw02.MacCodes': WHATEVER THE INPUT: true; the input reads as it did. -/
def macCodesSpec : ChangeSpec := { name := "macCodes", fn := fun _ => fun
  | [d1, d2, d3] => { results := [.lit (.bool true)], args := [d1, d2, d3] }
  | _ => none }
def macCodesRow : OpenClaim := { program := "ytkiaeepdpmcafaadoor", sum := "41499714c0948839e2df9c2dfda59ae5b3d6a4dae5b58e98cc0788aac0a19340", func := "planchet/planchetlaw02.MacCodes", spec := "macCodes", named := ["planchet/sha.start", "planchet/sha.constants"], apart := false, laid := [("planchet/sha.start", laid_planchet_sha_start), ("planchet/sha.constants", laid_planchet_sha_constants)] }
def MacCodesSaid : Prop := macCodesRow.holds Tryd.pinned (OpenSpec.ofChange macCodesSpec)

/-- ITS FALSE NEIGHBOUR: 'it returns false'. Refute it at one input. -/
def macCodesWrong : ChangeSpec := { name := "macCodes", fn := fun _ => fun
  | [d1, d2, d3] => { results := [.lit (.bool false)], args := [d1, d2, d3] }
  | _ => none }
def MacCodesWrongFalsely : Prop := macCodesRow.holds Tryd.pinned (OpenSpec.ofChange macCodesWrong)

/-- 'planchetlaw02.MacKeys': WHATEVER THE INPUT: true; the input reads as it did. -/
def macKeysSpec : ChangeSpec := { name := "macKeys", fn := fun _ => fun
  | [d1, d2, d3] => { results := [.lit (.bool true)], args := [d1, d2, d3] }
  | _ => none }
def macKeysRow : OpenClaim := { program := "ytkiaeepdpmcafaadoor", sum := "41499714c0948839e2df9c2dfda59ae5b3d6a4dae5b58e98cc0788aac0a19340", func := "planchet/planchetlaw02.MacKeys", spec := "macKeys", named := ["planchet/sha.start", "planchet/sha.constants"], apart := false, laid := [("planchet/sha.start", laid_planchet_sha_start), ("planchet/sha.constants", laid_planchet_sha_constants)] }
def MacKeysSaid : Prop := macKeysRow.holds Tryd.pinned (OpenSpec.ofChange macKeysSpec)

/-- ITS FALSE NEIGHBOUR: 'it returns false'. Refute it at one input. -/
def macKeysWrong : ChangeSpec := { name := "macKeys", fn := fun _ => fun
  | [d1, d2, d3] => { results := [.lit (.bool false)], args := [d1, d2, d3] }
  | _ => none }
def MacKeysWrongFalsely : Prop := macKeysRow.holds Tryd.pinned (OpenSpec.ofChange macKeysWrong)

/-- 'planchetlaw05.KeyedSums': WHATEVER THE INPUT: true; the input reads as it did. -/
def keyedSumsSpec : ChangeSpec := { name := "keyedSums", fn := fun _ => fun
  | [d1, d2, d3, d4, d5] => { results := [.lit (.bool true)], args := [d1, d2, d3, d4, d5] }
  | _ => none }
def keyedSumsRow : OpenClaim := { program := "ytkiaeepdpmcafaadoor", sum := "41499714c0948839e2df9c2dfda59ae5b3d6a4dae5b58e98cc0788aac0a19340", func := "planchet/planchetlaw05.KeyedSums", spec := "keyedSums", named := ["planchet/sha.start", "planchet/sha.constants"], apart := false, laid := [("planchet/sha.start", laid_planchet_sha_start), ("planchet/sha.constants", laid_planchet_sha_constants)] }
def KeyedSumsSaid : Prop := keyedSumsRow.holds Tryd.pinned (OpenSpec.ofChange keyedSumsSpec)

/-- ITS FALSE NEIGHBOUR: 'it returns false'. Refute it at one input. -/
def keyedSumsWrong : ChangeSpec := { name := "keyedSums", fn := fun _ => fun
  | [d1, d2, d3, d4, d5] => { results := [.lit (.bool false)], args := [d1, d2, d3, d4, d5] }
  | _ => none }
def KeyedSumsWrongFalsely : Prop := keyedSumsRow.holds Tryd.pinned (OpenSpec.ofChange keyedSumsWrong)

/-- 'planchetlaw05.KeyedMessages': WHATEVER THE INPUT: true; the input reads as it did. -/
def keyedMessagesSpec : ChangeSpec := { name := "keyedMessages", fn := fun _ => fun
  | [d1, d2, d3, d4] => { results := [.lit (.bool true)], args := [d1, d2, d3, d4] }
  | _ => none }
def keyedMessagesRow : OpenClaim := { program := "ytkiaeepdpmcafaadoor", sum := "41499714c0948839e2df9c2dfda59ae5b3d6a4dae5b58e98cc0788aac0a19340", func := "planchet/planchetlaw05.KeyedMessages", spec := "keyedMessages", named := ["planchet/sha.start", "planchet/sha.constants"], apart := false, laid := [("planchet/sha.start", laid_planchet_sha_start), ("planchet/sha.constants", laid_planchet_sha_constants)] }
def KeyedMessagesSaid : Prop := keyedMessagesRow.holds Tryd.pinned (OpenSpec.ofChange keyedMessagesSpec)

/-- ITS FALSE NEIGHBOUR: 'it returns false'. Refute it at one input. -/
def keyedMessagesWrong : ChangeSpec := { name := "keyedMessages", fn := fun _ => fun
  | [d1, d2, d3, d4] => { results := [.lit (.bool false)], args := [d1, d2, d3, d4] }
  | _ => none }
def KeyedMessagesWrongFalsely : Prop := keyedMessagesRow.holds Tryd.pinned (OpenSpec.ofChange keyedMessagesWrong)

/-- 'planchetlaw07.ChainRuns': WHATEVER THE INPUT: true; the input reads as it did. -/
def chainRunsSpec : ChangeSpec := { name := "chainRuns", fn := fun _ => fun
  | [d1, d2, d3, d4, d5] => { results := [.lit (.bool true)], args := [d1, d2, d3, d4, d5] }
  | _ => none }
def chainRunsRow : OpenClaim := { program := "ytkiaeepdpmcafaadoor", sum := "41499714c0948839e2df9c2dfda59ae5b3d6a4dae5b58e98cc0788aac0a19340", func := "planchet/planchetlaw07.ChainRuns", spec := "chainRuns", unfollowed := true, recurses := true, named := ["planchet/sha.start", "planchet/sha.constants"], apart := false, laid := [("planchet/sha.start", laid_planchet_sha_start), ("planchet/sha.constants", laid_planchet_sha_constants)] }
def ChainRunsSaid : Prop := chainRunsRow.holds Tryd.pinned (OpenSpec.ofChange chainRunsSpec)

/-- ITS FALSE NEIGHBOUR: 'it returns false'. Refute it at one input. -/
def chainRunsWrong : ChangeSpec := { name := "chainRuns", fn := fun _ => fun
  | [d1, d2, d3, d4, d5] => { results := [.lit (.bool false)], args := [d1, d2, d3, d4, d5] }
  | _ => none }
def ChainRunsWrongFalsely : Prop := chainRunsRow.holds Tryd.pinned (OpenSpec.ofChange chainRunsWrong)

/-- 'planchetlaw07.ChainJoins': WHATEVER THE INPUT: true; the input reads as it did. -/
def chainJoinsSpec : ChangeSpec := { name := "chainJoins", fn := fun _ => fun
  | [d1, d2, d3, d4, d5, d6] => { results := [.lit (.bool true)], args := [d1, d2, d3, d4, d5, d6] }
  | _ => none }
def chainJoinsRow : OpenClaim := { program := "ytkiaeepdpmcafaadoor", sum := "41499714c0948839e2df9c2dfda59ae5b3d6a4dae5b58e98cc0788aac0a19340", func := "planchet/planchetlaw07.ChainJoins", spec := "chainJoins", unfollowed := true, recurses := true, named := ["planchet/sha.start", "planchet/sha.constants"], apart := false, laid := [("planchet/sha.start", laid_planchet_sha_start), ("planchet/sha.constants", laid_planchet_sha_constants)] }
def ChainJoinsSaid : Prop := chainJoinsRow.holds Tryd.pinned (OpenSpec.ofChange chainJoinsSpec)

/-- ITS FALSE NEIGHBOUR: 'it returns false'. Refute it at one input. -/
def chainJoinsWrong : ChangeSpec := { name := "chainJoins", fn := fun _ => fun
  | [d1, d2, d3, d4, d5, d6] => { results := [.lit (.bool false)], args := [d1, d2, d3, d4, d5, d6] }
  | _ => none }
def ChainJoinsWrongFalsely : Prop := chainJoinsRow.holds Tryd.pinned (OpenSpec.ofChange chainJoinsWrong)

/- THE SECOND FORM. 'bulk': how many values and letters a reading holds, each counted each time it is reached (what is shared counts as often as it is met; a slice's spare places count too). A statement '..UptoSaid' is the law's where the arguments, and the package variables that the reading takes, are together of bulk at most 1048576: NARROWER than '..Said'. Prove '..Said' where nothing that the law and all that it calls make is longer than what came in: it says more and counts as full. Else prove '..UptoSaid'. A law counts once. -/
mutual
def uptoBulk {H : Type} : DataW H → Nat
  | .lit (.string bytes) => bytes.length + 1
  | .lit _ => 1
  | .nil => 1
  | .ptr d => uptoBulk d + 1
  | .slice elems spare => uptoBulkAll elems + uptoBulkAll spare + 1
  | .agg parts => uptoBulkAll parts + 1
  | .iface _ d => uptoBulk d + 1
  | .map entries => uptoBulkEntries entries + 1
  | .held _ => 1
def uptoBulkAll {H : Type} : List (DataW H) → Nat
  | [] => 0
  | d :: r => uptoBulk d + uptoBulkAll r
def uptoBulkEntries {H : Type} : List (Lit × DataW H) → Nat
  | [] => 0
  | x :: r => uptoBulkEntry x + uptoBulkEntries r
def uptoBulkEntry {H : Type} : Lit × DataW H → Nat
  | (.string bytes, d) => bytes.length + uptoBulk d + 1
  | (_, d) => uptoBulk d + 1
 end
def uptoSmall : (H : Type) → List (DataW H) → Bool := fun _ ds => decide (uptoBulkAll ds ≤ 1048576)
def OpenSpec.upto (s : _root_.Go.ChangeSpec) : _root_.Go.OpenSpec := { _root_.Go.OpenSpec.ofChange s with cond := some uptoSmall }

/-- 'planchetlaw01.ShaSums', WHERE WHAT IT READS IS OF BULK AT MOST 1048576: true; the input reads as it did. -/
def shaSumsUptoRow : OpenClaim := { program := "ytkiaeepdpmcafaadoor", sum := "41499714c0948839e2df9c2dfda59ae5b3d6a4dae5b58e98cc0788aac0a19340", func := "planchet/planchetlaw01.ShaSums", spec := "shaSums", named := ["planchet/sha.start", "planchet/sha.constants"], apart := false, laid := [("planchet/sha.start", laid_planchet_sha_start), ("planchet/sha.constants", laid_planchet_sha_constants)], narrowed := true }
def ShaSumsUptoSaid : Prop := shaSumsUptoRow.holds Tryd.pinned (OpenSpec.upto shaSumsSpec)

/-- 'planchetlaw01.ShaWrites', WHERE WHAT IT READS IS OF BULK AT MOST 1048576: true; the input reads as it did. -/
def shaWritesUptoRow : OpenClaim := { program := "ytkiaeepdpmcafaadoor", sum := "41499714c0948839e2df9c2dfda59ae5b3d6a4dae5b58e98cc0788aac0a19340", func := "planchet/planchetlaw01.ShaWrites", spec := "shaWrites", named := ["planchet/sha.start", "planchet/sha.constants"], apart := false, laid := [("planchet/sha.start", laid_planchet_sha_start), ("planchet/sha.constants", laid_planchet_sha_constants)], narrowed := true }
def ShaWritesUptoSaid : Prop := shaWritesUptoRow.holds Tryd.pinned (OpenSpec.upto shaWritesSpec)

/-- 'planchetlaw01.ShaParts', WHERE WHAT IT READS IS OF BULK AT MOST 1048576: true; the input reads as it did. -/
def shaPartsUptoRow : OpenClaim := { program := "ytkiaeepdpmcafaadoor", sum := "41499714c0948839e2df9c2dfda59ae5b3d6a4dae5b58e98cc0788aac0a19340", func := "planchet/planchetlaw01.ShaParts", spec := "shaParts", named := ["planchet/sha.start", "planchet/sha.constants"], apart := false, laid := [("planchet/sha.start", laid_planchet_sha_start), ("planchet/sha.constants", laid_planchet_sha_constants)], narrowed := true }
def ShaPartsUptoSaid : Prop := shaPartsUptoRow.holds Tryd.pinned (OpenSpec.upto shaPartsSpec)

/-- 'planchetlaw02.MacCodes', WHERE WHAT IT READS IS OF BULK AT MOST 1048576: true; the input reads as it did. -/
def macCodesUptoRow : OpenClaim := { program := "ytkiaeepdpmcafaadoor", sum := "41499714c0948839e2df9c2dfda59ae5b3d6a4dae5b58e98cc0788aac0a19340", func := "planchet/planchetlaw02.MacCodes", spec := "macCodes", named := ["planchet/sha.start", "planchet/sha.constants"], apart := false, laid := [("planchet/sha.start", laid_planchet_sha_start), ("planchet/sha.constants", laid_planchet_sha_constants)], narrowed := true }
def MacCodesUptoSaid : Prop := macCodesUptoRow.holds Tryd.pinned (OpenSpec.upto macCodesSpec)

/-- 'planchetlaw02.MacKeys', WHERE WHAT IT READS IS OF BULK AT MOST 1048576: true; the input reads as it did. -/
def macKeysUptoRow : OpenClaim := { program := "ytkiaeepdpmcafaadoor", sum := "41499714c0948839e2df9c2dfda59ae5b3d6a4dae5b58e98cc0788aac0a19340", func := "planchet/planchetlaw02.MacKeys", spec := "macKeys", named := ["planchet/sha.start", "planchet/sha.constants"], apart := false, laid := [("planchet/sha.start", laid_planchet_sha_start), ("planchet/sha.constants", laid_planchet_sha_constants)], narrowed := true }
def MacKeysUptoSaid : Prop := macKeysUptoRow.holds Tryd.pinned (OpenSpec.upto macKeysSpec)

/-- 'planchetlaw05.KeyedSums', WHERE WHAT IT READS IS OF BULK AT MOST 1048576: true; the input reads as it did. -/
def keyedSumsUptoRow : OpenClaim := { program := "ytkiaeepdpmcafaadoor", sum := "41499714c0948839e2df9c2dfda59ae5b3d6a4dae5b58e98cc0788aac0a19340", func := "planchet/planchetlaw05.KeyedSums", spec := "keyedSums", named := ["planchet/sha.start", "planchet/sha.constants"], apart := false, laid := [("planchet/sha.start", laid_planchet_sha_start), ("planchet/sha.constants", laid_planchet_sha_constants)], narrowed := true }
def KeyedSumsUptoSaid : Prop := keyedSumsUptoRow.holds Tryd.pinned (OpenSpec.upto keyedSumsSpec)

/-- 'planchetlaw05.KeyedMessages', WHERE WHAT IT READS IS OF BULK AT MOST 1048576: true; the input reads as it did. -/
def keyedMessagesUptoRow : OpenClaim := { program := "ytkiaeepdpmcafaadoor", sum := "41499714c0948839e2df9c2dfda59ae5b3d6a4dae5b58e98cc0788aac0a19340", func := "planchet/planchetlaw05.KeyedMessages", spec := "keyedMessages", named := ["planchet/sha.start", "planchet/sha.constants"], apart := false, laid := [("planchet/sha.start", laid_planchet_sha_start), ("planchet/sha.constants", laid_planchet_sha_constants)], narrowed := true }
def KeyedMessagesUptoSaid : Prop := keyedMessagesUptoRow.holds Tryd.pinned (OpenSpec.upto keyedMessagesSpec)

/-- 'planchetlaw07.ChainRuns', WHERE WHAT IT READS IS OF BULK AT MOST 1048576: true; the input reads as it did. -/
def chainRunsUptoRow : OpenClaim := { program := "ytkiaeepdpmcafaadoor", sum := "41499714c0948839e2df9c2dfda59ae5b3d6a4dae5b58e98cc0788aac0a19340", func := "planchet/planchetlaw07.ChainRuns", spec := "chainRuns", unfollowed := true, recurses := true, named := ["planchet/sha.start", "planchet/sha.constants"], apart := false, laid := [("planchet/sha.start", laid_planchet_sha_start), ("planchet/sha.constants", laid_planchet_sha_constants)], narrowed := true }
def ChainRunsUptoSaid : Prop := chainRunsUptoRow.holds Tryd.pinned (OpenSpec.upto chainRunsSpec)

/-- 'planchetlaw07.ChainJoins', WHERE WHAT IT READS IS OF BULK AT MOST 1048576: true; the input reads as it did. -/
def chainJoinsUptoRow : OpenClaim := { program := "ytkiaeepdpmcafaadoor", sum := "41499714c0948839e2df9c2dfda59ae5b3d6a4dae5b58e98cc0788aac0a19340", func := "planchet/planchetlaw07.ChainJoins", spec := "chainJoins", unfollowed := true, recurses := true, named := ["planchet/sha.start", "planchet/sha.constants"], apart := false, laid := [("planchet/sha.start", laid_planchet_sha_start), ("planchet/sha.constants", laid_planchet_sha_constants)], narrowed := true }
def ChainJoinsUptoSaid : Prop := chainJoinsUptoRow.holds Tryd.pinned (OpenSpec.upto chainJoinsSpec)

end Rows
end Go.Proofs.YtkiaeepdpmcafaaDoor
