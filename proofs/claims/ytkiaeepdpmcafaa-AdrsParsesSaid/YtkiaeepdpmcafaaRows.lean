/-
  No cell of these rows narrows 'for every input' (looked for: loops, veiled, ifaces, maps, wideKeys, modest, calm, conditions, laid).
  DERIVED. THE GIVEN ROWS OF THIS SEAT. 10 by the template 'for every input the law returns true; each argument reads behind the call as it read before'; 0 by the template 'total and deterministic' (their statements: YtkiaeepdpmcafaaTotals.lean).
  GIVEN WITH THE SEED: the statements are not yours to turn. If you find one false, say at which input.
  Laid BY PROGRAM, IN A SANDBOX (cutbox-rows.mjs): the forced cells as the released guide's own fill.sh prints them over the translation b64dd2cdef27d6d8… (all of the seat's roots in one cut). By AI agents, Wed Nov 11 2026. No macro, syntax, notation, axiom, sorry.
-/
import Derived.Test.YtkiaeepdpmcafaaChecked
import GoSem.Claim
import GoSem.ClaimJoined
import GoSem.ClaimMapViews
import Derived.JoinedTies
import Derived.KernelRfl
namespace Go.Proofs.Ytkiaeepdpmcafaa
/- THE CELL 'sum', in the pinned program and in every row, IS THE sha256 OF THE DUMP (.gsa) THAT YtkiaeepdpmcafaaProg.lean LOADS. Nothing in Lean hashes anything: it is a label: what it is worth is what the hold of that sum in a sandbox is worth. -/
noncomputable def Try.pinned : Pinned := { name := "ytkiaeepdpmcafaa", sum := "b64dd2cdef27d6d88822abd3b6dc29f2a2a645a21fc987c8b540da2cb6fca16e", checked := Try.checked }
namespace Rows
def none {H : Type} : Left H := { results := [], args := [] }

/-- 'planchetlaw06.DigitsOf': WHATEVER THE INPUT: true; the input reads as it did. -/
def digitsOfSpec : ChangeSpec := { name := "digitsOf", fn := fun _ => fun
  | [d1, d2] => { results := [.lit (.bool true)], args := [d1, d2] }
  | _ => none }
def digitsOfRow : OpenClaim := { program := "ytkiaeepdpmcafaa", sum := "b64dd2cdef27d6d88822abd3b6dc29f2a2a645a21fc987c8b540da2cb6fca16e", func := "planchet/planchetlaw06.DigitsOf", spec := "digitsOf", apart := false }
def DigitsOfSaid : Prop := digitsOfRow.holds Try.pinned (OpenSpec.ofChange digitsOfSpec)

/-- ITS FALSE NEIGHBOUR: 'it returns false'. Refute it at one input. -/
def digitsOfWrong : ChangeSpec := { name := "digitsOf", fn := fun _ => fun
  | [d1, d2] => { results := [.lit (.bool false)], args := [d1, d2] }
  | _ => none }
def DigitsOfWrongFalsely : Prop := digitsOfRow.holds Try.pinned (OpenSpec.ofChange digitsOfWrong)

/-- 'planchetlaw06.DigitsApart': WHATEVER THE INPUT: true; the input reads as it did. -/
def digitsApartSpec : ChangeSpec := { name := "digitsApart", fn := fun _ => fun
  | [d1, d2] => { results := [.lit (.bool true)], args := [d1, d2] }
  | _ => none }
def digitsApartRow : OpenClaim := { program := "ytkiaeepdpmcafaa", sum := "b64dd2cdef27d6d88822abd3b6dc29f2a2a645a21fc987c8b540da2cb6fca16e", func := "planchet/planchetlaw06.DigitsApart", spec := "digitsApart", apart := false }
def DigitsApartSaid : Prop := digitsApartRow.holds Try.pinned (OpenSpec.ofChange digitsApartSpec)

/-- ITS FALSE NEIGHBOUR: 'it returns false'. Refute it at one input. -/
def digitsApartWrong : ChangeSpec := { name := "digitsApart", fn := fun _ => fun
  | [d1, d2] => { results := [.lit (.bool false)], args := [d1, d2] }
  | _ => none }
def DigitsApartWrongFalsely : Prop := digitsApartRow.holds Try.pinned (OpenSpec.ofChange digitsApartWrong)

/-- 'planchetlaw14.FenceRaises': WHATEVER THE INPUT: true; the input reads as it did. -/
def fenceRaisesSpec : ChangeSpec := { name := "fenceRaises", fn := fun _ => fun
  | [d] => { results := [.lit (.bool true)], args := [d] }
  | _ => none }
def fenceRaisesRow : OpenClaim := { program := "ytkiaeepdpmcafaa", sum := "b64dd2cdef27d6d88822abd3b6dc29f2a2a645a21fc987c8b540da2cb6fca16e", func := "planchet/planchetlaw14.FenceRaises", spec := "fenceRaises", apart := false }
def FenceRaisesSaid : Prop := fenceRaisesRow.holds Try.pinned (OpenSpec.ofChange fenceRaisesSpec)

/-- ITS FALSE NEIGHBOUR: 'it returns false'. Refute it at one input. -/
def fenceRaisesWrong : ChangeSpec := { name := "fenceRaises", fn := fun _ => fun
  | [d] => { results := [.lit (.bool false)], args := [d] }
  | _ => none }
def FenceRaisesWrongFalsely : Prop := fenceRaisesRow.holds Try.pinned (OpenSpec.ofChange fenceRaisesWrong)

/-- 'planchetlaw14.FenceLeast': WHATEVER THE INPUT: true; the input reads as it did. -/
def fenceLeastSpec : ChangeSpec := { name := "fenceLeast", fn := fun _ => fun
  | [d1, d2, d3] => { results := [.lit (.bool true)], args := [d1, d2, d3] }
  | _ => none }
def fenceLeastRow : OpenClaim := { program := "ytkiaeepdpmcafaa", sum := "b64dd2cdef27d6d88822abd3b6dc29f2a2a645a21fc987c8b540da2cb6fca16e", func := "planchet/planchetlaw14.FenceLeast", spec := "fenceLeast", apart := false }
def FenceLeastSaid : Prop := fenceLeastRow.holds Try.pinned (OpenSpec.ofChange fenceLeastSpec)

/-- ITS FALSE NEIGHBOUR: 'it returns false'. Refute it at one input. -/
def fenceLeastWrong : ChangeSpec := { name := "fenceLeast", fn := fun _ => fun
  | [d1, d2, d3] => { results := [.lit (.bool false)], args := [d1, d2, d3] }
  | _ => none }
def FenceLeastWrongFalsely : Prop := fenceLeastRow.holds Try.pinned (OpenSpec.ofChange fenceLeastWrong)

/-- 'planchetlaw04.AdrsMakes': WHATEVER THE INPUT: true; the input reads as it did. -/
def adrsMakesSpec : ChangeSpec := { name := "adrsMakes", fn := fun _ => fun
  | [d1, d2, d3, d4, d5] => { results := [.lit (.bool true)], args := [d1, d2, d3, d4, d5] }
  | _ => none }
def adrsMakesRow : OpenClaim := { program := "ytkiaeepdpmcafaa", sum := "b64dd2cdef27d6d88822abd3b6dc29f2a2a645a21fc987c8b540da2cb6fca16e", func := "planchet/planchetlaw04.AdrsMakes", spec := "adrsMakes", apart := false }
def AdrsMakesSaid : Prop := adrsMakesRow.holds Try.pinned (OpenSpec.ofChange adrsMakesSpec)

/-- ITS FALSE NEIGHBOUR: 'it returns false'. Refute it at one input. -/
def adrsMakesWrong : ChangeSpec := { name := "adrsMakes", fn := fun _ => fun
  | [d1, d2, d3, d4, d5] => { results := [.lit (.bool false)], args := [d1, d2, d3, d4, d5] }
  | _ => none }
def AdrsMakesWrongFalsely : Prop := adrsMakesRow.holds Try.pinned (OpenSpec.ofChange adrsMakesWrong)

/-- 'planchetlaw04.AdrsParses': WHATEVER THE INPUT: true; the input reads as it did. -/
def adrsParsesSpec : ChangeSpec := { name := "adrsParses", fn := fun _ => fun
  | [d1, d2] => { results := [.lit (.bool true)], args := [d1, d2] }
  | _ => none }
def adrsParsesRow : OpenClaim := { program := "ytkiaeepdpmcafaa", sum := "b64dd2cdef27d6d88822abd3b6dc29f2a2a645a21fc987c8b540da2cb6fca16e", func := "planchet/planchetlaw04.AdrsParses", spec := "adrsParses", apart := false }
def AdrsParsesSaid : Prop := adrsParsesRow.holds Try.pinned (OpenSpec.ofChange adrsParsesSpec)

/-- ITS FALSE NEIGHBOUR: 'it returns false'. Refute it at one input. -/
def adrsParsesWrong : ChangeSpec := { name := "adrsParses", fn := fun _ => fun
  | [d1, d2] => { results := [.lit (.bool false)], args := [d1, d2] }
  | _ => none }
def AdrsParsesWrongFalsely : Prop := adrsParsesRow.holds Try.pinned (OpenSpec.ofChange adrsParsesWrong)

/-- 'planchetlaw04.AdrsApart': WHATEVER THE INPUT: true; the input reads as it did. -/
def adrsApartSpec : ChangeSpec := { name := "adrsApart", fn := fun _ => fun
  | [d1, d2, d3, d4] => { results := [.lit (.bool true)], args := [d1, d2, d3, d4] }
  | _ => none }
def adrsApartRow : OpenClaim := { program := "ytkiaeepdpmcafaa", sum := "b64dd2cdef27d6d88822abd3b6dc29f2a2a645a21fc987c8b540da2cb6fca16e", func := "planchet/planchetlaw04.AdrsApart", spec := "adrsApart", apart := false }
def AdrsApartSaid : Prop := adrsApartRow.holds Try.pinned (OpenSpec.ofChange adrsApartSpec)

/-- ITS FALSE NEIGHBOUR: 'it returns false'. Refute it at one input. -/
def adrsApartWrong : ChangeSpec := { name := "adrsApart", fn := fun _ => fun
  | [d1, d2, d3, d4] => { results := [.lit (.bool false)], args := [d1, d2, d3, d4] }
  | _ => none }
def AdrsApartWrongFalsely : Prop := adrsApartRow.holds Try.pinned (OpenSpec.ofChange adrsApartWrong)

/-- 'planchetlaw03.PackNumbers': WHATEVER THE INPUT: true; the input reads as it did. -/
def packNumbersSpec : ChangeSpec := { name := "packNumbers", fn := fun _ => fun
  | [d1, d2, d3] => { results := [.lit (.bool true)], args := [d1, d2, d3] }
  | _ => none }
def packNumbersRow : OpenClaim := { program := "ytkiaeepdpmcafaa", sum := "b64dd2cdef27d6d88822abd3b6dc29f2a2a645a21fc987c8b540da2cb6fca16e", func := "planchet/planchetlaw03.PackNumbers", spec := "packNumbers", unfollowed := true, recurses := true, apart := false }
def PackNumbersSaid : Prop := packNumbersRow.holds Try.pinned (OpenSpec.ofChange packNumbersSpec)

/-- ITS FALSE NEIGHBOUR: 'it returns false'. Refute it at one input. -/
def packNumbersWrong : ChangeSpec := { name := "packNumbers", fn := fun _ => fun
  | [d1, d2, d3] => { results := [.lit (.bool false)], args := [d1, d2, d3] }
  | _ => none }
def PackNumbersWrongFalsely : Prop := packNumbersRow.holds Try.pinned (OpenSpec.ofChange packNumbersWrong)

/-- 'planchetlaw03.PackRows': WHATEVER THE INPUT: true; the input reads as it did. -/
def packRowsSpec : ChangeSpec := { name := "packRows", fn := fun _ => fun
  | [d] => { results := [.lit (.bool true)], args := [d] }
  | _ => none }
def packRowsRow : OpenClaim := { program := "ytkiaeepdpmcafaa", sum := "b64dd2cdef27d6d88822abd3b6dc29f2a2a645a21fc987c8b540da2cb6fca16e", func := "planchet/planchetlaw03.PackRows", spec := "packRows", unfollowed := true, recurses := true, apart := false }
def PackRowsSaid : Prop := packRowsRow.holds Try.pinned (OpenSpec.ofChange packRowsSpec)

/-- ITS FALSE NEIGHBOUR: 'it returns false'. Refute it at one input. -/
def packRowsWrong : ChangeSpec := { name := "packRows", fn := fun _ => fun
  | [d] => { results := [.lit (.bool false)], args := [d] }
  | _ => none }
def PackRowsWrongFalsely : Prop := packRowsRow.holds Try.pinned (OpenSpec.ofChange packRowsWrong)

/-- 'planchetlaw03.PackSplits': WHATEVER THE INPUT: true; the input reads as it did. -/
def packSplitsSpec : ChangeSpec := { name := "packSplits", fn := fun _ => fun
  | [d1, d2] => { results := [.lit (.bool true)], args := [d1, d2] }
  | _ => none }
def packSplitsRow : OpenClaim := { program := "ytkiaeepdpmcafaa", sum := "b64dd2cdef27d6d88822abd3b6dc29f2a2a645a21fc987c8b540da2cb6fca16e", func := "planchet/planchetlaw03.PackSplits", spec := "packSplits", unfollowed := true, recurses := true, apart := false }
def PackSplitsSaid : Prop := packSplitsRow.holds Try.pinned (OpenSpec.ofChange packSplitsSpec)

/-- ITS FALSE NEIGHBOUR: 'it returns false'. Refute it at one input. -/
def packSplitsWrong : ChangeSpec := { name := "packSplits", fn := fun _ => fun
  | [d1, d2] => { results := [.lit (.bool false)], args := [d1, d2] }
  | _ => none }
def PackSplitsWrongFalsely : Prop := packSplitsRow.holds Try.pinned (OpenSpec.ofChange packSplitsWrong)

/- THE SECOND FORM. 'bulk': how many values and letters a reading holds, each counted each time it is reached (what is shared counts as often as it is met; a slice's spare places count too). A statement '..UptoSaid' is the law's where the arguments, and the package variables that the reading takes, are together of bulk at most 1048576: NARROWER than '..Said'. Prove '..Said' where nothing that the law and all that it calls make is longer than what came in: it says more and counts as full. Else prove '..UptoSaid'. A law counts once. -/
mutual
def uptoBulk {H : Type} : DataW H → Nat
  | .lit (.string bytes) => bytes.length + 1
  | .lit _ => 1
  | .nil => 1
  | .ptr d => uptoBulk d + 1
  | .slice elems spare => uptoBulkAll elems + uptoBulkAll spare + 1
  | .agg parts => uptoBulkAll parts + 1
  | .iface _ d => uptoBulk d + 1
  | .map entries => uptoBulkEntries entries + 1
  | .held _ => 1
def uptoBulkAll {H : Type} : List (DataW H) → Nat
  | [] => 0
  | d :: r => uptoBulk d + uptoBulkAll r
def uptoBulkEntries {H : Type} : List (Lit × DataW H) → Nat
  | [] => 0
  | x :: r => uptoBulkEntry x + uptoBulkEntries r
def uptoBulkEntry {H : Type} : Lit × DataW H → Nat
  | (.string bytes, d) => bytes.length + uptoBulk d + 1
  | (_, d) => uptoBulk d + 1
 end
def uptoSmall : (H : Type) → List (DataW H) → Bool := fun _ ds => decide (uptoBulkAll ds ≤ 1048576)
def OpenSpec.upto (s : _root_.Go.ChangeSpec) : _root_.Go.OpenSpec := { _root_.Go.OpenSpec.ofChange s with cond := some uptoSmall }

/-- 'planchetlaw06.DigitsOf', WHERE WHAT IT READS IS OF BULK AT MOST 1048576: true; the input reads as it did. -/
def digitsOfUptoRow : OpenClaim := { program := "ytkiaeepdpmcafaa", sum := "b64dd2cdef27d6d88822abd3b6dc29f2a2a645a21fc987c8b540da2cb6fca16e", func := "planchet/planchetlaw06.DigitsOf", spec := "digitsOf", apart := false, narrowed := true }
def DigitsOfUptoSaid : Prop := digitsOfUptoRow.holds Try.pinned (OpenSpec.upto digitsOfSpec)

/-- 'planchetlaw06.DigitsApart', WHERE WHAT IT READS IS OF BULK AT MOST 1048576: true; the input reads as it did. -/
def digitsApartUptoRow : OpenClaim := { program := "ytkiaeepdpmcafaa", sum := "b64dd2cdef27d6d88822abd3b6dc29f2a2a645a21fc987c8b540da2cb6fca16e", func := "planchet/planchetlaw06.DigitsApart", spec := "digitsApart", apart := false, narrowed := true }
def DigitsApartUptoSaid : Prop := digitsApartUptoRow.holds Try.pinned (OpenSpec.upto digitsApartSpec)

/-- 'planchetlaw14.FenceRaises', WHERE WHAT IT READS IS OF BULK AT MOST 1048576: true; the input reads as it did. -/
def fenceRaisesUptoRow : OpenClaim := { program := "ytkiaeepdpmcafaa", sum := "b64dd2cdef27d6d88822abd3b6dc29f2a2a645a21fc987c8b540da2cb6fca16e", func := "planchet/planchetlaw14.FenceRaises", spec := "fenceRaises", apart := false, narrowed := true }
def FenceRaisesUptoSaid : Prop := fenceRaisesUptoRow.holds Try.pinned (OpenSpec.upto fenceRaisesSpec)

/-- 'planchetlaw14.FenceLeast', WHERE WHAT IT READS IS OF BULK AT MOST 1048576: true; the input reads as it did. -/
def fenceLeastUptoRow : OpenClaim := { program := "ytkiaeepdpmcafaa", sum := "b64dd2cdef27d6d88822abd3b6dc29f2a2a645a21fc987c8b540da2cb6fca16e", func := "planchet/planchetlaw14.FenceLeast", spec := "fenceLeast", apart := false, narrowed := true }
def FenceLeastUptoSaid : Prop := fenceLeastUptoRow.holds Try.pinned (OpenSpec.upto fenceLeastSpec)

/-- 'planchetlaw04.AdrsMakes', WHERE WHAT IT READS IS OF BULK AT MOST 1048576: true; the input reads as it did. -/
def adrsMakesUptoRow : OpenClaim := { program := "ytkiaeepdpmcafaa", sum := "b64dd2cdef27d6d88822abd3b6dc29f2a2a645a21fc987c8b540da2cb6fca16e", func := "planchet/planchetlaw04.AdrsMakes", spec := "adrsMakes", apart := false, narrowed := true }
def AdrsMakesUptoSaid : Prop := adrsMakesUptoRow.holds Try.pinned (OpenSpec.upto adrsMakesSpec)

/-- 'planchetlaw04.AdrsParses', WHERE WHAT IT READS IS OF BULK AT MOST 1048576: true; the input reads as it did. -/
def adrsParsesUptoRow : OpenClaim := { program := "ytkiaeepdpmcafaa", sum := "b64dd2cdef27d6d88822abd3b6dc29f2a2a645a21fc987c8b540da2cb6fca16e", func := "planchet/planchetlaw04.AdrsParses", spec := "adrsParses", apart := false, narrowed := true }
def AdrsParsesUptoSaid : Prop := adrsParsesUptoRow.holds Try.pinned (OpenSpec.upto adrsParsesSpec)

/-- 'planchetlaw04.AdrsApart', WHERE WHAT IT READS IS OF BULK AT MOST 1048576: true; the input reads as it did. -/
def adrsApartUptoRow : OpenClaim := { program := "ytkiaeepdpmcafaa", sum := "b64dd2cdef27d6d88822abd3b6dc29f2a2a645a21fc987c8b540da2cb6fca16e", func := "planchet/planchetlaw04.AdrsApart", spec := "adrsApart", apart := false, narrowed := true }
def AdrsApartUptoSaid : Prop := adrsApartUptoRow.holds Try.pinned (OpenSpec.upto adrsApartSpec)

/-- 'planchetlaw03.PackNumbers', WHERE WHAT IT READS IS OF BULK AT MOST 1048576: true; the input reads as it did. -/
def packNumbersUptoRow : OpenClaim := { program := "ytkiaeepdpmcafaa", sum := "b64dd2cdef27d6d88822abd3b6dc29f2a2a645a21fc987c8b540da2cb6fca16e", func := "planchet/planchetlaw03.PackNumbers", spec := "packNumbers", unfollowed := true, recurses := true, apart := false, narrowed := true }
def PackNumbersUptoSaid : Prop := packNumbersUptoRow.holds Try.pinned (OpenSpec.upto packNumbersSpec)

/-- 'planchetlaw03.PackRows', WHERE WHAT IT READS IS OF BULK AT MOST 1048576: true; the input reads as it did. -/
def packRowsUptoRow : OpenClaim := { program := "ytkiaeepdpmcafaa", sum := "b64dd2cdef27d6d88822abd3b6dc29f2a2a645a21fc987c8b540da2cb6fca16e", func := "planchet/planchetlaw03.PackRows", spec := "packRows", unfollowed := true, recurses := true, apart := false, narrowed := true }
def PackRowsUptoSaid : Prop := packRowsUptoRow.holds Try.pinned (OpenSpec.upto packRowsSpec)

/-- 'planchetlaw03.PackSplits', WHERE WHAT IT READS IS OF BULK AT MOST 1048576: true; the input reads as it did. -/
def packSplitsUptoRow : OpenClaim := { program := "ytkiaeepdpmcafaa", sum := "b64dd2cdef27d6d88822abd3b6dc29f2a2a645a21fc987c8b540da2cb6fca16e", func := "planchet/planchetlaw03.PackSplits", spec := "packSplits", unfollowed := true, recurses := true, apart := false, narrowed := true }
def PackSplitsUptoSaid : Prop := packSplitsUptoRow.holds Try.pinned (OpenSpec.upto packSplitsSpec)

end Rows
end Go.Proofs.Ytkiaeepdpmcafaa
