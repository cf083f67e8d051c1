/-
  NARROWER THAN 'FOR EVERY INPUT', by the rows' own cells (each row's printed sentence says how): StorePlays: laid · StoreCrashes: laid.
  DERIVED. THE GIVEN ROWS OF THIS SEAT. 2 by the template 'for every input the law returns true; each argument reads behind the call as it read before'; 0 by the template 'total and deterministic' (their statements: YtgmghkakiocmjaaGreatDoorTotals.lean).
  GIVEN WITH THE SEED: the statements are not yours to turn. If you find one false, say at which input.
  Laid BY PROGRAM, IN A SANDBOX (cutbox-rows.mjs): the forced cells as the released guide's own fill.sh prints them over the translation 671aeeb69c98032f… (all of the seat's roots in one cut). By AI agents, Wed Nov 11 2026. No macro, syntax, notation, axiom, sorry.
-/
import Derived.Test.YtgmghkakiocmjaaGreatDoorChecked
import GoSem.Claim
import GoSem.ClaimJoined
import GoSem.ClaimMapViews
import Derived.JoinedTies
import Derived.KernelRfl
namespace Go.Proofs.YtgmghkakiocmjaaGreatDoor
/- THE CELL 'sum', in the pinned program and in every row, IS THE sha256 OF THE DUMP (.gsa) THAT YtgmghkakiocmjaaGreatDoorProg.lean LOADS. Nothing in Lean hashes anything: it is a label: what it is worth is what the hold of that sum in a sandbox is worth. -/
noncomputable def Tryz.pinned : Pinned := { name := "ytgmghkakiocmjaagreatdoor", sum := "671aeeb69c98032fedb37c0076d071facfee4fe930dac6cb1cbd28081af81795", checked := Tryz.checked }
namespace Rows
def none {H : Type} : Left H := { results := [], args := [] }

/- WHAT THE LISTED PACKAGE-LEVEL VARIABLES READ AS WHEN THE CALL BEGINS. Each datum BY PROGRAM (the guide's laid-datum.mjs) off the statement by which the dump's own 'gosem.cut.vars' lays the variable. In a bare row this is a premise. The card (YtgmghkakiocmjaaGreatDoorCards.lean) ties it to the program's text. -/
def laid_jalousie_store_errArg {H : Type} : DataW H := .iface "*errors.errorString" (.ptr (.agg [.lit (.string [116, 104, 101, 114, 101, 32, 105, 115, 32, 110, 111, 32, 115, 117, 99, 104, 32, 112, 108, 97, 99, 101])]))
def laid_jalousie_store_errLong {H : Type} : DataW H := .iface "*errors.errorString" (.ptr (.agg [.lit (.string [97, 32, 114, 101, 99, 111, 114, 100, 32, 105, 115, 32, 116, 111, 111, 32, 108, 111, 110, 103])]))
def laid_jalousie_store_errFull {H : Type} : DataW H := .iface "*errors.errorString" (.ptr (.agg [.lit (.string [116, 104, 101, 114, 101, 32, 105, 115, 32, 110, 111, 32, 114, 111, 111, 109])]))
def laid_jalousie_store_errLost {H : Type} : DataW H := .iface "*errors.errorString" (.ptr (.agg [.lit (.string [116, 104, 101, 32, 112, 111, 119, 101, 114, 32, 105, 115, 32, 103, 111, 110, 101])]))
def laid_jalousie_store_errSpent {H : Type} : DataW H := .iface "*errors.errorString" (.ptr (.agg [.lit (.string [110, 117, 109, 98, 101, 114, 115, 32, 97, 114, 101, 32, 115, 112, 101, 110, 116])]))

/-- 'jalousielaw09.StorePlays': WHATEVER THE INPUT: true; the input reads as it did. -/
def storePlaysSpec : ChangeSpec := { name := "storePlays", fn := fun _ => fun
  | [d1, d2] => { results := [.lit (.bool true)], args := [d1, d2] }
  | _ => none }
def storePlaysRow : OpenClaim := { program := "ytgmghkakiocmjaagreatdoor", sum := "671aeeb69c98032fedb37c0076d071facfee4fe930dac6cb1cbd28081af81795", func := "jalousie/jalousielaw09.StorePlays", spec := "storePlays", inPlace := ["internal/reflectlite.TypeOf"], unfollowed := true, recurses := true, named := ["jalousie/store.errArg", "jalousie/store.errFull", "jalousie/store.errSpent", "jalousie/store.errLost", "jalousie/store.errLong"], apart := false, laid := [("jalousie/store.errArg", laid_jalousie_store_errArg), ("jalousie/store.errLong", laid_jalousie_store_errLong), ("jalousie/store.errFull", laid_jalousie_store_errFull), ("jalousie/store.errLost", laid_jalousie_store_errLost), ("jalousie/store.errSpent", laid_jalousie_store_errSpent)] }
def StorePlaysSaid : Prop := storePlaysRow.holds Tryz.pinned (OpenSpec.ofChange storePlaysSpec)

/-- ITS FALSE NEIGHBOUR: 'it returns false'. Refute it at one input. -/
def storePlaysWrong : ChangeSpec := { name := "storePlays", fn := fun _ => fun
  | [d1, d2] => { results := [.lit (.bool false)], args := [d1, d2] }
  | _ => none }
def StorePlaysWrongFalsely : Prop := storePlaysRow.holds Tryz.pinned (OpenSpec.ofChange storePlaysWrong)

/-- 'jalousielaw09.StoreCrashes': WHATEVER THE INPUT: true; the input reads as it did. -/
def storeCrashesSpec : ChangeSpec := { name := "storeCrashes", fn := fun _ => fun
  | [d1, d2] => { results := [.lit (.bool true)], args := [d1, d2] }
  | _ => none }
def storeCrashesRow : OpenClaim := { program := "ytgmghkakiocmjaagreatdoor", sum := "671aeeb69c98032fedb37c0076d071facfee4fe930dac6cb1cbd28081af81795", func := "jalousie/jalousielaw09.StoreCrashes", spec := "storeCrashes", inPlace := ["internal/reflectlite.TypeOf"], unfollowed := true, recurses := true, named := ["jalousie/store.errArg", "jalousie/store.errFull", "jalousie/store.errSpent", "jalousie/store.errLost", "jalousie/store.errLong"], apart := false, laid := [("jalousie/store.errArg", laid_jalousie_store_errArg), ("jalousie/store.errLong", laid_jalousie_store_errLong), ("jalousie/store.errFull", laid_jalousie_store_errFull), ("jalousie/store.errLost", laid_jalousie_store_errLost), ("jalousie/store.errSpent", laid_jalousie_store_errSpent)] }
def StoreCrashesSaid : Prop := storeCrashesRow.holds Tryz.pinned (OpenSpec.ofChange storeCrashesSpec)

/-- ITS FALSE NEIGHBOUR: 'it returns false'. Refute it at one input. -/
def storeCrashesWrong : ChangeSpec := { name := "storeCrashes", fn := fun _ => fun
  | [d1, d2] => { results := [.lit (.bool false)], args := [d1, d2] }
  | _ => none }
def StoreCrashesWrongFalsely : Prop := storeCrashesRow.holds Tryz.pinned (OpenSpec.ofChange storeCrashesWrong)

/- THE SECOND FORM. 'bulk': how many values and letters a reading holds, each counted each time it is reached (what is shared counts as often as it is met; a slice's spare places count too). A statement '..UptoSaid' is the law's where the arguments, and the package variables that the reading takes, are together of bulk at most 1048576: NARROWER than '..Said'. Prove '..Said' where nothing that the law and all that it calls make is longer than what came in: it says more and counts as full. Else prove '..UptoSaid'. A law counts once. -/
mutual
def uptoBulk {H : Type} : DataW H → Nat
  | .lit (.string bytes) => bytes.length + 1
  | .lit _ => 1
  | .nil => 1
  | .ptr d => uptoBulk d + 1
  | .slice elems spare => uptoBulkAll elems + uptoBulkAll spare + 1
  | .agg parts => uptoBulkAll parts + 1
  | .iface _ d => uptoBulk d + 1
  | .map entries => uptoBulkEntries entries + 1
  | .held _ => 1
def uptoBulkAll {H : Type} : List (DataW H) → Nat
  | [] => 0
  | d :: r => uptoBulk d + uptoBulkAll r
def uptoBulkEntries {H : Type} : List (Lit × DataW H) → Nat
  | [] => 0
  | x :: r => uptoBulkEntry x + uptoBulkEntries r
def uptoBulkEntry {H : Type} : Lit × DataW H → Nat
  | (.string bytes, d) => bytes.length + uptoBulk d + 1
  | (_, d) => uptoBulk d + 1
 end
def uptoSmall : (H : Type) → List (DataW H) → Bool := fun _ ds => decide (uptoBulkAll ds ≤ 1048576)
def OpenSpec.upto (s : _root_.Go.ChangeSpec) : _root_.Go.OpenSpec := { _root_.Go.OpenSpec.ofChange s with cond := some uptoSmall }

/-- 'jalousielaw09.StorePlays', WHERE WHAT IT READS IS OF BULK AT MOST 1048576: true; the input reads as it did. -/
def storePlaysUptoRow : OpenClaim := { program := "ytgmghkakiocmjaagreatdoor", sum := "671aeeb69c98032fedb37c0076d071facfee4fe930dac6cb1cbd28081af81795", func := "jalousie/jalousielaw09.StorePlays", spec := "storePlays", inPlace := ["internal/reflectlite.TypeOf"], unfollowed := true, recurses := true, named := ["jalousie/store.errArg", "jalousie/store.errFull", "jalousie/store.errSpent", "jalousie/store.errLost", "jalousie/store.errLong"], apart := false, laid := [("jalousie/store.errArg", laid_jalousie_store_errArg), ("jalousie/store.errLong", laid_jalousie_store_errLong), ("jalousie/store.errFull", laid_jalousie_store_errFull), ("jalousie/store.errLost", laid_jalousie_store_errLost), ("jalousie/store.errSpent", laid_jalousie_store_errSpent)], narrowed := true }
def StorePlaysUptoSaid : Prop := storePlaysUptoRow.holds Tryz.pinned (OpenSpec.upto storePlaysSpec)

/-- 'jalousielaw09.StoreCrashes', WHERE WHAT IT READS IS OF BULK AT MOST 1048576: true; the input reads as it did. -/
def storeCrashesUptoRow : OpenClaim := { program := "ytgmghkakiocmjaagreatdoor", sum := "671aeeb69c98032fedb37c0076d071facfee4fe930dac6cb1cbd28081af81795", func := "jalousie/jalousielaw09.StoreCrashes", spec := "storeCrashes", inPlace := ["internal/reflectlite.TypeOf"], unfollowed := true, recurses := true, named := ["jalousie/store.errArg", "jalousie/store.errFull", "jalousie/store.errSpent", "jalousie/store.errLost", "jalousie/store.errLong"], apart := false, laid := [("jalousie/store.errArg", laid_jalousie_store_errArg), ("jalousie/store.errLong", laid_jalousie_store_errLong), ("jalousie/store.errFull", laid_jalousie_store_errFull), ("jalousie/store.errLost", laid_jalousie_store_errLost), ("jalousie/store.errSpent", laid_jalousie_store_errSpent)], narrowed := true }
def StoreCrashesUptoSaid : Prop := storeCrashesUptoRow.holds Tryz.pinned (OpenSpec.upto storeCrashesSpec)

end Rows
end Go.Proofs.YtgmghkakiocmjaaGreatDoor
