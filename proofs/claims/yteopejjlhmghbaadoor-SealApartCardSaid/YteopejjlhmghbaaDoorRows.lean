/-
  NARROWER THAN 'FOR EVERY INPUT', by the rows' own cells (each row's printed sentence says how): SealEmpty: laid · SealOpens: laid · SealAny: laid · SealApart: laid.
  DERIVED. THE GIVEN ROWS OF THIS SEAT. 4 by the template 'for every input the law returns true; each argument reads behind the call as it read before'; 0 by the template 'total and deterministic' (their statements: YteopejjlhmghbaaDoorTotals.lean).
  GIVEN WITH THE SEED: the statements are not yours to turn. If you find one false, say at which input.
  Laid BY PROGRAM, IN A SANDBOX (cutbox-rows.mjs): the forced cells as the released guide's own fill.sh prints them over the translation db6c50178763439a… (all of the seat's roots in one cut). By AI agents, Wed Nov 11 2026. No macro, syntax, notation, axiom, sorry.
-/
import Derived.Test.YteopejjlhmghbaaDoorChecked
import GoSem.Claim
import GoSem.ClaimJoined
import GoSem.ClaimMapViews
import Derived.JoinedTies
import Derived.KernelRfl
namespace Go.Proofs.YteopejjlhmghbaaDoor
/- THE CELL 'sum', in the pinned program and in every row, IS THE sha256 OF THE DUMP (.gsa) THAT YteopejjlhmghbaaDoorProg.lean LOADS. Nothing in Lean hashes anything: it is a label: what it is worth is what the hold of that sum in a sandbox is worth. -/
noncomputable def Tryd.pinned : Pinned := { name := "yteopejjlhmghbaadoor", sum := "db6c50178763439abf09cd7d24405961b6af4a88c5ff7aa7ff0c73ada799a207", checked := Tryd.checked }
namespace Rows
def none {H : Type} : Left H := { results := [], args := [] }

/- WHAT THE LISTED PACKAGE-LEVEL VARIABLES READ AS WHEN THE CALL BEGINS. Each datum BY PROGRAM (the guide's laid-datum.mjs) off the statement by which the dump's own 'gosem.cut.vars' lays the variable. In a bare row this is a premise. The card (YteopejjlhmghbaaDoorCards.lean) ties it to the program's text. -/
def laid_errors_errorType {H : Type} : DataW H := .iface "internal/reflectlite.rtype" (.agg [.ptr (.lit (.string [101, 114, 114, 111, 114]))])
def laid_jalousie_seal_errShort {H : Type} : DataW H := .iface "*errors.errorString" (.ptr (.agg [.lit (.string [116, 111, 111, 32, 115, 104, 111, 114, 116, 32, 102, 111, 114, 32, 97, 32, 99, 111, 100, 101])]))
def laid_jalousie_seal_errOther {H : Type} : DataW H := .iface "*errors.errorString" (.ptr (.agg [.lit (.string [116, 104, 101, 32, 99, 111, 100, 101, 32, 105, 115, 32, 97, 110, 111, 116, 104, 101, 114, 32, 111, 110, 101])]))

/-- 'jalousielaw04.SealEmpty': WHATEVER THE INPUT: true; the input reads as it did. -/
def sealEmptySpec : ChangeSpec := { name := "sealEmpty", fn := fun _ => fun
  | [d1, d2] => { results := [.lit (.bool true)], args := [d1, d2] }
  | _ => none }
def sealEmptyRow : OpenClaim := { program := "yteopejjlhmghbaadoor", sum := "db6c50178763439abf09cd7d24405961b6af4a88c5ff7aa7ff0c73ada799a207", func := "jalousie/jalousielaw04.SealEmpty", spec := "sealEmpty", inPlace := ["math/bits.Add64", "math/bits.Sub64", "internal/reflectlite.ValueOf", "(internal/reflectlite.Value).Type", "(internal/reflectlite.Value).IsNil", "internal/reflectlite.TypeOf", "(internal/reflectlite.Value).Elem", "(internal/reflectlite.Value).Set"], unfollowed := true, recurses := true, named := ["jalousie/seal.errShort", "jalousie/seal.errOther", "errors.errorType"], apart := false, laid := [("errors.errorType", laid_errors_errorType), ("jalousie/seal.errShort", laid_jalousie_seal_errShort), ("jalousie/seal.errOther", laid_jalousie_seal_errOther)] }
def SealEmptySaid : Prop := sealEmptyRow.holds Tryd.pinned (OpenSpec.ofChange sealEmptySpec)

/-- ITS FALSE NEIGHBOUR: 'it returns false'. Refute it at one input. -/
def sealEmptyWrong : ChangeSpec := { name := "sealEmpty", fn := fun _ => fun
  | [d1, d2] => { results := [.lit (.bool false)], args := [d1, d2] }
  | _ => none }
def SealEmptyWrongFalsely : Prop := sealEmptyRow.holds Tryd.pinned (OpenSpec.ofChange sealEmptyWrong)

/-- 'jalousielaw04.SealOpens': WHATEVER THE INPUT: true; the input reads as it did. -/
def sealOpensSpec : ChangeSpec := { name := "sealOpens", fn := fun _ => fun
  | [d1, d2, d3] => { results := [.lit (.bool true)], args := [d1, d2, d3] }
  | _ => none }
def sealOpensRow : OpenClaim := { program := "yteopejjlhmghbaadoor", sum := "db6c50178763439abf09cd7d24405961b6af4a88c5ff7aa7ff0c73ada799a207", func := "jalousie/jalousielaw04.SealOpens", spec := "sealOpens", inPlace := ["math/bits.Add64", "math/bits.Sub64", "internal/reflectlite.ValueOf", "(internal/reflectlite.Value).Type", "(internal/reflectlite.Value).IsNil", "internal/reflectlite.TypeOf", "(internal/reflectlite.Value).Elem", "(internal/reflectlite.Value).Set"], unfollowed := true, recurses := true, named := ["jalousie/seal.errShort", "jalousie/seal.errOther", "errors.errorType"], apart := false, laid := [("errors.errorType", laid_errors_errorType), ("jalousie/seal.errShort", laid_jalousie_seal_errShort), ("jalousie/seal.errOther", laid_jalousie_seal_errOther)] }
def SealOpensSaid : Prop := sealOpensRow.holds Tryd.pinned (OpenSpec.ofChange sealOpensSpec)

/-- ITS FALSE NEIGHBOUR: 'it returns false'. Refute it at one input. -/
def sealOpensWrong : ChangeSpec := { name := "sealOpens", fn := fun _ => fun
  | [d1, d2, d3] => { results := [.lit (.bool false)], args := [d1, d2, d3] }
  | _ => none }
def SealOpensWrongFalsely : Prop := sealOpensRow.holds Tryd.pinned (OpenSpec.ofChange sealOpensWrong)

/-- 'jalousielaw04.SealAny': WHATEVER THE INPUT: true; the input reads as it did. -/
def sealAnySpec : ChangeSpec := { name := "sealAny", fn := fun _ => fun
  | [d1, d2, d3] => { results := [.lit (.bool true)], args := [d1, d2, d3] }
  | _ => none }
def sealAnyRow : OpenClaim := { program := "yteopejjlhmghbaadoor", sum := "db6c50178763439abf09cd7d24405961b6af4a88c5ff7aa7ff0c73ada799a207", func := "jalousie/jalousielaw04.SealAny", spec := "sealAny", inPlace := ["math/bits.Add64", "math/bits.Sub64", "internal/reflectlite.ValueOf", "(internal/reflectlite.Value).Type", "(internal/reflectlite.Value).IsNil", "internal/reflectlite.TypeOf", "(internal/reflectlite.Value).Elem", "(internal/reflectlite.Value).Set"], unfollowed := true, recurses := true, named := ["jalousie/seal.errShort", "jalousie/seal.errOther", "errors.errorType"], apart := false, laid := [("errors.errorType", laid_errors_errorType), ("jalousie/seal.errShort", laid_jalousie_seal_errShort), ("jalousie/seal.errOther", laid_jalousie_seal_errOther)] }
def SealAnySaid : Prop := sealAnyRow.holds Tryd.pinned (OpenSpec.ofChange sealAnySpec)

/-- ITS FALSE NEIGHBOUR: 'it returns false'. Refute it at one input. -/
def sealAnyWrong : ChangeSpec := { name := "sealAny", fn := fun _ => fun
  | [d1, d2, d3] => { results := [.lit (.bool false)], args := [d1, d2, d3] }
  | _ => none }
def SealAnyWrongFalsely : Prop := sealAnyRow.holds Tryd.pinned (OpenSpec.ofChange sealAnyWrong)

/-- 'jalousielaw04.SealApart': WHATEVER THE INPUT: true; the input reads as it did. -/
def sealApartSpec : ChangeSpec := { name := "sealApart", fn := fun _ => fun
  | [d1, d2, d3] => { results := [.lit (.bool true)], args := [d1, d2, d3] }
  | _ => none }
def sealApartRow : OpenClaim := { program := "yteopejjlhmghbaadoor", sum := "db6c50178763439abf09cd7d24405961b6af4a88c5ff7aa7ff0c73ada799a207", func := "jalousie/jalousielaw04.SealApart", spec := "sealApart", inPlace := ["math/bits.Add64", "math/bits.Sub64", "internal/reflectlite.ValueOf", "(internal/reflectlite.Value).Type", "(internal/reflectlite.Value).IsNil", "internal/reflectlite.TypeOf", "(internal/reflectlite.Value).Elem", "(internal/reflectlite.Value).Set"], unfollowed := true, recurses := true, named := ["jalousie/seal.errShort", "jalousie/seal.errOther", "errors.errorType"], apart := false, laid := [("errors.errorType", laid_errors_errorType), ("jalousie/seal.errShort", laid_jalousie_seal_errShort), ("jalousie/seal.errOther", laid_jalousie_seal_errOther)] }
def SealApartSaid : Prop := sealApartRow.holds Tryd.pinned (OpenSpec.ofChange sealApartSpec)

/-- ITS FALSE NEIGHBOUR: 'it returns false'. Refute it at one input. -/
def sealApartWrong : ChangeSpec := { name := "sealApart", fn := fun _ => fun
  | [d1, d2, d3] => { results := [.lit (.bool false)], args := [d1, d2, d3] }
  | _ => none }
def SealApartWrongFalsely : Prop := sealApartRow.holds Tryd.pinned (OpenSpec.ofChange sealApartWrong)

/- THE SECOND FORM. 'bulk': how many values and letters a reading holds, each counted each time it is reached (what is shared counts as often as it is met; a slice's spare places count too). A statement '..UptoSaid' is the law's where the arguments, and the package variables that the reading takes, are together of bulk at most 1048576: NARROWER than '..Said'. Prove '..Said' where nothing that the law and all that it calls make is longer than what came in: it says more and counts as full. Else prove '..UptoSaid'. A law counts once. -/
mutual
def uptoBulk {H : Type} : DataW H → Nat
  | .lit (.string bytes) => bytes.length + 1
  | .lit _ => 1
  | .nil => 1
  | .ptr d => uptoBulk d + 1
  | .slice elems spare => uptoBulkAll elems + uptoBulkAll spare + 1
  | .agg parts => uptoBulkAll parts + 1
  | .iface _ d => uptoBulk d + 1
  | .map entries => uptoBulkEntries entries + 1
  | .held _ => 1
def uptoBulkAll {H : Type} : List (DataW H) → Nat
  | [] => 0
  | d :: r => uptoBulk d + uptoBulkAll r
def uptoBulkEntries {H : Type} : List (Lit × DataW H) → Nat
  | [] => 0
  | x :: r => uptoBulkEntry x + uptoBulkEntries r
def uptoBulkEntry {H : Type} : Lit × DataW H → Nat
  | (.string bytes, d) => bytes.length + uptoBulk d + 1
  | (_, d) => uptoBulk d + 1
 end
def uptoSmall : (H : Type) → List (DataW H) → Bool := fun _ ds => decide (uptoBulkAll ds ≤ 1048576)
def OpenSpec.upto (s : _root_.Go.ChangeSpec) : _root_.Go.OpenSpec := { _root_.Go.OpenSpec.ofChange s with cond := some uptoSmall }

/-- 'jalousielaw04.SealEmpty', WHERE WHAT IT READS IS OF BULK AT MOST 1048576: true; the input reads as it did. -/
def sealEmptyUptoRow : OpenClaim := { program := "yteopejjlhmghbaadoor", sum := "db6c50178763439abf09cd7d24405961b6af4a88c5ff7aa7ff0c73ada799a207", func := "jalousie/jalousielaw04.SealEmpty", spec := "sealEmpty", inPlace := ["math/bits.Add64", "math/bits.Sub64", "internal/reflectlite.ValueOf", "(internal/reflectlite.Value).Type", "(internal/reflectlite.Value).IsNil", "internal/reflectlite.TypeOf", "(internal/reflectlite.Value).Elem", "(internal/reflectlite.Value).Set"], unfollowed := true, recurses := true, named := ["jalousie/seal.errShort", "jalousie/seal.errOther", "errors.errorType"], apart := false, laid := [("errors.errorType", laid_errors_errorType), ("jalousie/seal.errShort", laid_jalousie_seal_errShort), ("jalousie/seal.errOther", laid_jalousie_seal_errOther)], narrowed := true }
def SealEmptyUptoSaid : Prop := sealEmptyUptoRow.holds Tryd.pinned (OpenSpec.upto sealEmptySpec)

/-- 'jalousielaw04.SealOpens', WHERE WHAT IT READS IS OF BULK AT MOST 1048576: true; the input reads as it did. -/
def sealOpensUptoRow : OpenClaim := { program := "yteopejjlhmghbaadoor", sum := "db6c50178763439abf09cd7d24405961b6af4a88c5ff7aa7ff0c73ada799a207", func := "jalousie/jalousielaw04.SealOpens", spec := "sealOpens", inPlace := ["math/bits.Add64", "math/bits.Sub64", "internal/reflectlite.ValueOf", "(internal/reflectlite.Value).Type", "(internal/reflectlite.Value).IsNil", "internal/reflectlite.TypeOf", "(internal/reflectlite.Value).Elem", "(internal/reflectlite.Value).Set"], unfollowed := true, recurses := true, named := ["jalousie/seal.errShort", "jalousie/seal.errOther", "errors.errorType"], apart := false, laid := [("errors.errorType", laid_errors_errorType), ("jalousie/seal.errShort", laid_jalousie_seal_errShort), ("jalousie/seal.errOther", laid_jalousie_seal_errOther)], narrowed := true }
def SealOpensUptoSaid : Prop := sealOpensUptoRow.holds Tryd.pinned (OpenSpec.upto sealOpensSpec)

/-- 'jalousielaw04.SealAny', WHERE WHAT IT READS IS OF BULK AT MOST 1048576: true; the input reads as it did. -/
def sealAnyUptoRow : OpenClaim := { program := "yteopejjlhmghbaadoor", sum := "db6c50178763439abf09cd7d24405961b6af4a88c5ff7aa7ff0c73ada799a207", func := "jalousie/jalousielaw04.SealAny", spec := "sealAny", inPlace := ["math/bits.Add64", "math/bits.Sub64", "internal/reflectlite.ValueOf", "(internal/reflectlite.Value).Type", "(internal/reflectlite.Value).IsNil", "internal/reflectlite.TypeOf", "(internal/reflectlite.Value).Elem", "(internal/reflectlite.Value).Set"], unfollowed := true, recurses := true, named := ["jalousie/seal.errShort", "jalousie/seal.errOther", "errors.errorType"], apart := false, laid := [("errors.errorType", laid_errors_errorType), ("jalousie/seal.errShort", laid_jalousie_seal_errShort), ("jalousie/seal.errOther", laid_jalousie_seal_errOther)], narrowed := true }
def SealAnyUptoSaid : Prop := sealAnyUptoRow.holds Tryd.pinned (OpenSpec.upto sealAnySpec)

/-- 'jalousielaw04.SealApart', WHERE WHAT IT READS IS OF BULK AT MOST 1048576: true; the input reads as it did. -/
def sealApartUptoRow : OpenClaim := { program := "yteopejjlhmghbaadoor", sum := "db6c50178763439abf09cd7d24405961b6af4a88c5ff7aa7ff0c73ada799a207", func := "jalousie/jalousielaw04.SealApart", spec := "sealApart", inPlace := ["math/bits.Add64", "math/bits.Sub64", "internal/reflectlite.ValueOf", "(internal/reflectlite.Value).Type", "(internal/reflectlite.Value).IsNil", "internal/reflectlite.TypeOf", "(internal/reflectlite.Value).Elem", "(internal/reflectlite.Value).Set"], unfollowed := true, recurses := true, named := ["jalousie/seal.errShort", "jalousie/seal.errOther", "errors.errorType"], apart := false, laid := [("errors.errorType", laid_errors_errorType), ("jalousie/seal.errShort", laid_jalousie_seal_errShort), ("jalousie/seal.errOther", laid_jalousie_seal_errOther)], narrowed := true }
def SealApartUptoSaid : Prop := sealApartUptoRow.holds Tryd.pinned (OpenSpec.upto sealApartSpec)

end Rows
end Go.Proofs.YteopejjlhmghbaaDoor
