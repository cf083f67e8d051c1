/-
  No cell of these rows narrows 'for every input' (looked for: loops, veiled, ifaces, maps, wideKeys, modest, calm, conditions, laid).
  DERIVED. THE GIVEN ROWS OF THIS SEAT. 10 by the template 'for every input the law returns true; each argument reads behind the call as it read before'; 0 by the template 'total and deterministic' (their statements: YtmmaiohnfphcjaaTotals.lean).
  GIVEN WITH THE SEED: the statements are not yours to turn. If you find one false, say at which input.
  Laid BY PROGRAM, IN A SANDBOX (cutbox-rows.mjs): the forced cells as the released guide's own fill.sh prints them over the translation b0b92e77cd992b68… (all of the seat's roots in one cut). By AI agents, Wed Nov 11 2026. No macro, syntax, notation, axiom, sorry.
-/
import Derived.Test.YtmmaiohnfphcjaaChecked
import GoSem.Claim
import GoSem.ClaimJoined
import GoSem.ClaimMapViews
import Derived.JoinedTies
import Derived.KernelRfl
namespace Go.Proofs.Ytmmaiohnfphcjaa
/- THE CELL 'sum', in the pinned program and in every row, IS THE sha256 OF THE DUMP (.gsa) THAT YtmmaiohnfphcjaaProg.lean LOADS. Nothing in Lean hashes anything: it is a label: what it is worth is what the hold of that sum in a sandbox is worth. -/
noncomputable def Try.pinned : Pinned := { name := "ytmmaiohnfphcjaa", sum := "b0b92e77cd992b68691bf9314035e7decf024c6f1d9bca5682a6c15cf83009de", checked := Try.checked }
namespace Rows
def none {H : Type} : Left H := { results := [], args := [] }

/-- 'jalousielaw06.PadGrows': WHATEVER THE INPUT: true; the input reads as it did. -/
def padGrowsSpec : ChangeSpec := { name := "padGrows", fn := fun _ => fun
  | [d1, d2] => { results := [.lit (.bool true)], args := [d1, d2] }
  | _ => none }
def padGrowsRow : OpenClaim := { program := "ytmmaiohnfphcjaa", sum := "b0b92e77cd992b68691bf9314035e7decf024c6f1d9bca5682a6c15cf83009de", func := "jalousie/jalousielaw06.PadGrows", spec := "padGrows", apart := false }
def PadGrowsSaid : Prop := padGrowsRow.holds Try.pinned (OpenSpec.ofChange padGrowsSpec)

/-- ITS FALSE NEIGHBOUR: 'it returns false'. Refute it at one input. -/
def padGrowsWrong : ChangeSpec := { name := "padGrows", fn := fun _ => fun
  | [d1, d2] => { results := [.lit (.bool false)], args := [d1, d2] }
  | _ => none }
def PadGrowsWrongFalsely : Prop := padGrowsRow.holds Try.pinned (OpenSpec.ofChange padGrowsWrong)

/-- 'jalousielaw06.PadBuckets': WHATEVER THE INPUT: true; the input reads as it did. -/
def padBucketsSpec : ChangeSpec := { name := "padBuckets", fn := fun _ => fun
  | [d] => { results := [.lit (.bool true)], args := [d] }
  | _ => none }
def padBucketsRow : OpenClaim := { program := "ytmmaiohnfphcjaa", sum := "b0b92e77cd992b68691bf9314035e7decf024c6f1d9bca5682a6c15cf83009de", func := "jalousie/jalousielaw06.PadBuckets", spec := "padBuckets", apart := false }
def PadBucketsSaid : Prop := padBucketsRow.holds Try.pinned (OpenSpec.ofChange padBucketsSpec)

/-- ITS FALSE NEIGHBOUR: 'it returns false'. Refute it at one input. -/
def padBucketsWrong : ChangeSpec := { name := "padBuckets", fn := fun _ => fun
  | [d] => { results := [.lit (.bool false)], args := [d] }
  | _ => none }
def PadBucketsWrongFalsely : Prop := padBucketsRow.holds Try.pinned (OpenSpec.ofChange padBucketsWrong)

/-- 'jalousielaw06.PadAlike': WHATEVER THE INPUT: true; the input reads as it did. -/
def padAlikeSpec : ChangeSpec := { name := "padAlike", fn := fun _ => fun
  | [d1, d2] => { results := [.lit (.bool true)], args := [d1, d2] }
  | _ => none }
def padAlikeRow : OpenClaim := { program := "ytmmaiohnfphcjaa", sum := "b0b92e77cd992b68691bf9314035e7decf024c6f1d9bca5682a6c15cf83009de", func := "jalousie/jalousielaw06.PadAlike", spec := "padAlike", apart := false }
def PadAlikeSaid : Prop := padAlikeRow.holds Try.pinned (OpenSpec.ofChange padAlikeSpec)

/-- ITS FALSE NEIGHBOUR: 'it returns false'. Refute it at one input. -/
def padAlikeWrong : ChangeSpec := { name := "padAlike", fn := fun _ => fun
  | [d1, d2] => { results := [.lit (.bool false)], args := [d1, d2] }
  | _ => none }
def PadAlikeWrongFalsely : Prop := padAlikeRow.holds Try.pinned (OpenSpec.ofChange padAlikeWrong)

/-- 'jalousielaw14.VectorJoins': WHATEVER THE INPUT: true; the input reads as it did. -/
def vectorJoinsSpec : ChangeSpec := { name := "vectorJoins", fn := fun _ => fun
  | [d1, d2, d3] => { results := [.lit (.bool true)], args := [d1, d2, d3] }
  | _ => none }
def vectorJoinsRow : OpenClaim := { program := "ytmmaiohnfphcjaa", sum := "b0b92e77cd992b68691bf9314035e7decf024c6f1d9bca5682a6c15cf83009de", func := "jalousie/jalousielaw14.VectorJoins", spec := "vectorJoins", apart := false }
def VectorJoinsSaid : Prop := vectorJoinsRow.holds Try.pinned (OpenSpec.ofChange vectorJoinsSpec)

/-- ITS FALSE NEIGHBOUR: 'it returns false'. Refute it at one input. -/
def vectorJoinsWrong : ChangeSpec := { name := "vectorJoins", fn := fun _ => fun
  | [d1, d2, d3] => { results := [.lit (.bool false)], args := [d1, d2, d3] }
  | _ => none }
def VectorJoinsWrongFalsely : Prop := vectorJoinsRow.holds Try.pinned (OpenSpec.ofChange vectorJoinsWrong)

/-- 'jalousielaw14.VectorReckons': WHATEVER THE INPUT: true; the input reads as it did. -/
def vectorReckonsSpec : ChangeSpec := { name := "vectorReckons", fn := fun _ => fun
  | [d1, d2] => { results := [.lit (.bool true)], args := [d1, d2] }
  | _ => none }
def vectorReckonsRow : OpenClaim := { program := "ytmmaiohnfphcjaa", sum := "b0b92e77cd992b68691bf9314035e7decf024c6f1d9bca5682a6c15cf83009de", func := "jalousie/jalousielaw14.VectorReckons", spec := "vectorReckons", apart := false }
def VectorReckonsSaid : Prop := vectorReckonsRow.holds Try.pinned (OpenSpec.ofChange vectorReckonsSpec)

/-- ITS FALSE NEIGHBOUR: 'it returns false'. Refute it at one input. -/
def vectorReckonsWrong : ChangeSpec := { name := "vectorReckons", fn := fun _ => fun
  | [d1, d2] => { results := [.lit (.bool false)], args := [d1, d2] }
  | _ => none }
def VectorReckonsWrongFalsely : Prop := vectorReckonsRow.holds Try.pinned (OpenSpec.ofChange vectorReckonsWrong)

/-- 'jalousielaw18.ItemLater': WHATEVER THE INPUT: true; the input reads as it did. -/
def itemLaterSpec : ChangeSpec := { name := "itemLater", fn := fun _ => fun
  | [d1, d2, d3] => { results := [.lit (.bool true)], args := [d1, d2, d3] }
  | _ => none }
def itemLaterRow : OpenClaim := { program := "ytmmaiohnfphcjaa", sum := "b0b92e77cd992b68691bf9314035e7decf024c6f1d9bca5682a6c15cf83009de", func := "jalousie/jalousielaw18.ItemLater", spec := "itemLater", apart := false }
def ItemLaterSaid : Prop := itemLaterRow.holds Try.pinned (OpenSpec.ofChange itemLaterSpec)

/-- ITS FALSE NEIGHBOUR: 'it returns false'. Refute it at one input. -/
def itemLaterWrong : ChangeSpec := { name := "itemLater", fn := fun _ => fun
  | [d1, d2, d3] => { results := [.lit (.bool false)], args := [d1, d2, d3] }
  | _ => none }
def ItemLaterWrongFalsely : Prop := itemLaterRow.holds Try.pinned (OpenSpec.ofChange itemLaterWrong)

/-- 'jalousielaw17.GroupKeeps': WHATEVER THE INPUT: true; the input reads as it did. -/
def groupKeepsSpec : ChangeSpec := { name := "groupKeeps", fn := fun _ => fun
  | [d] => { results := [.lit (.bool true)], args := [d] }
  | _ => none }
def groupKeepsRow : OpenClaim := { program := "ytmmaiohnfphcjaa", sum := "b0b92e77cd992b68691bf9314035e7decf024c6f1d9bca5682a6c15cf83009de", func := "jalousie/jalousielaw17.GroupKeeps", spec := "groupKeeps", apart := false }
def GroupKeepsSaid : Prop := groupKeepsRow.holds Try.pinned (OpenSpec.ofChange groupKeepsSpec)

/-- ITS FALSE NEIGHBOUR: 'it returns false'. Refute it at one input. -/
def groupKeepsWrong : ChangeSpec := { name := "groupKeeps", fn := fun _ => fun
  | [d] => { results := [.lit (.bool false)], args := [d] }
  | _ => none }
def GroupKeepsWrongFalsely : Prop := groupKeepsRow.holds Try.pinned (OpenSpec.ofChange groupKeepsWrong)

/-- 'jalousielaw17.GroupCounts': WHATEVER THE INPUT: true; the input reads as it did. -/
def groupCountsSpec : ChangeSpec := { name := "groupCounts", fn := fun _ => fun
  | [d1, d2] => { results := [.lit (.bool true)], args := [d1, d2] }
  | _ => none }
def groupCountsRow : OpenClaim := { program := "ytmmaiohnfphcjaa", sum := "b0b92e77cd992b68691bf9314035e7decf024c6f1d9bca5682a6c15cf83009de", func := "jalousie/jalousielaw17.GroupCounts", spec := "groupCounts", apart := false }
def GroupCountsSaid : Prop := groupCountsRow.holds Try.pinned (OpenSpec.ofChange groupCountsSpec)

/-- ITS FALSE NEIGHBOUR: 'it returns false'. Refute it at one input. -/
def groupCountsWrong : ChangeSpec := { name := "groupCounts", fn := fun _ => fun
  | [d1, d2] => { results := [.lit (.bool false)], args := [d1, d2] }
  | _ => none }
def GroupCountsWrongFalsely : Prop := groupCountsRow.holds Try.pinned (OpenSpec.ofChange groupCountsWrong)

/-- 'jalousielaw17.GroupOps': WHATEVER THE INPUT: true; the input reads as it did. -/
def groupOpsSpec : ChangeSpec := { name := "groupOps", fn := fun _ => fun
  | [d1, d2] => { results := [.lit (.bool true)], args := [d1, d2] }
  | _ => none }
def groupOpsRow : OpenClaim := { program := "ytmmaiohnfphcjaa", sum := "b0b92e77cd992b68691bf9314035e7decf024c6f1d9bca5682a6c15cf83009de", func := "jalousie/jalousielaw17.GroupOps", spec := "groupOps", apart := false }
def GroupOpsSaid : Prop := groupOpsRow.holds Try.pinned (OpenSpec.ofChange groupOpsSpec)

/-- ITS FALSE NEIGHBOUR: 'it returns false'. Refute it at one input. -/
def groupOpsWrong : ChangeSpec := { name := "groupOps", fn := fun _ => fun
  | [d1, d2] => { results := [.lit (.bool false)], args := [d1, d2] }
  | _ => none }
def GroupOpsWrongFalsely : Prop := groupOpsRow.holds Try.pinned (OpenSpec.ofChange groupOpsWrong)

/-- 'jalousielaw17.GroupFolds': WHATEVER THE INPUT: true; the input reads as it did. -/
def groupFoldsSpec : ChangeSpec := { name := "groupFolds", fn := fun _ => fun
  | [d1, d2] => { results := [.lit (.bool true)], args := [d1, d2] }
  | _ => none }
def groupFoldsRow : OpenClaim := { program := "ytmmaiohnfphcjaa", sum := "b0b92e77cd992b68691bf9314035e7decf024c6f1d9bca5682a6c15cf83009de", func := "jalousie/jalousielaw17.GroupFolds", spec := "groupFolds", apart := false }
def GroupFoldsSaid : Prop := groupFoldsRow.holds Try.pinned (OpenSpec.ofChange groupFoldsSpec)

/-- ITS FALSE NEIGHBOUR: 'it returns false'. Refute it at one input. -/
def groupFoldsWrong : ChangeSpec := { name := "groupFolds", fn := fun _ => fun
  | [d1, d2] => { results := [.lit (.bool false)], args := [d1, d2] }
  | _ => none }
def GroupFoldsWrongFalsely : Prop := groupFoldsRow.holds Try.pinned (OpenSpec.ofChange groupFoldsWrong)

/- THE SECOND FORM. 'bulk': how many values and letters a reading holds, each counted each time it is reached (what is shared counts as often as it is met; a slice's spare places count too). A statement '..UptoSaid' is the law's where the arguments, and the package variables that the reading takes, are together of bulk at most 1048576: NARROWER than '..Said'. Prove '..Said' where nothing that the law and all that it calls make is longer than what came in: it says more and counts as full. Else prove '..UptoSaid'. A law counts once. -/
mutual
def uptoBulk {H : Type} : DataW H → Nat
  | .lit (.string bytes) => bytes.length + 1
  | .lit _ => 1
  | .nil => 1
  | .ptr d => uptoBulk d + 1
  | .slice elems spare => uptoBulkAll elems + uptoBulkAll spare + 1
  | .agg parts => uptoBulkAll parts + 1
  | .iface _ d => uptoBulk d + 1
  | .map entries => uptoBulkEntries entries + 1
  | .held _ => 1
def uptoBulkAll {H : Type} : List (DataW H) → Nat
  | [] => 0
  | d :: r => uptoBulk d + uptoBulkAll r
def uptoBulkEntries {H : Type} : List (Lit × DataW H) → Nat
  | [] => 0
  | x :: r => uptoBulkEntry x + uptoBulkEntries r
def uptoBulkEntry {H : Type} : Lit × DataW H → Nat
  | (.string bytes, d) => bytes.length + uptoBulk d + 1
  | (_, d) => uptoBulk d + 1
 end
def uptoSmall : (H : Type) → List (DataW H) → Bool := fun _ ds => decide (uptoBulkAll ds ≤ 1048576)
def OpenSpec.upto (s : _root_.Go.ChangeSpec) : _root_.Go.OpenSpec := { _root_.Go.OpenSpec.ofChange s with cond := some uptoSmall }

/-- 'jalousielaw06.PadGrows', WHERE WHAT IT READS IS OF BULK AT MOST 1048576: true; the input reads as it did. -/
def padGrowsUptoRow : OpenClaim := { program := "ytmmaiohnfphcjaa", sum := "b0b92e77cd992b68691bf9314035e7decf024c6f1d9bca5682a6c15cf83009de", func := "jalousie/jalousielaw06.PadGrows", spec := "padGrows", apart := false, narrowed := true }
def PadGrowsUptoSaid : Prop := padGrowsUptoRow.holds Try.pinned (OpenSpec.upto padGrowsSpec)

/-- 'jalousielaw06.PadBuckets', WHERE WHAT IT READS IS OF BULK AT MOST 1048576: true; the input reads as it did. -/
def padBucketsUptoRow : OpenClaim := { program := "ytmmaiohnfphcjaa", sum := "b0b92e77cd992b68691bf9314035e7decf024c6f1d9bca5682a6c15cf83009de", func := "jalousie/jalousielaw06.PadBuckets", spec := "padBuckets", apart := false, narrowed := true }
def PadBucketsUptoSaid : Prop := padBucketsUptoRow.holds Try.pinned (OpenSpec.upto padBucketsSpec)

/-- 'jalousielaw06.PadAlike', WHERE WHAT IT READS IS OF BULK AT MOST 1048576: true; the input reads as it did. -/
def padAlikeUptoRow : OpenClaim := { program := "ytmmaiohnfphcjaa", sum := "b0b92e77cd992b68691bf9314035e7decf024c6f1d9bca5682a6c15cf83009de", func := "jalousie/jalousielaw06.PadAlike", spec := "padAlike", apart := false, narrowed := true }
def PadAlikeUptoSaid : Prop := padAlikeUptoRow.holds Try.pinned (OpenSpec.upto padAlikeSpec)

/-- 'jalousielaw14.VectorJoins', WHERE WHAT IT READS IS OF BULK AT MOST 1048576: true; the input reads as it did. -/
def vectorJoinsUptoRow : OpenClaim := { program := "ytmmaiohnfphcjaa", sum := "b0b92e77cd992b68691bf9314035e7decf024c6f1d9bca5682a6c15cf83009de", func := "jalousie/jalousielaw14.VectorJoins", spec := "vectorJoins", apart := false, narrowed := true }
def VectorJoinsUptoSaid : Prop := vectorJoinsUptoRow.holds Try.pinned (OpenSpec.upto vectorJoinsSpec)

/-- 'jalousielaw14.VectorReckons', WHERE WHAT IT READS IS OF BULK AT MOST 1048576: true; the input reads as it did. -/
def vectorReckonsUptoRow : OpenClaim := { program := "ytmmaiohnfphcjaa", sum := "b0b92e77cd992b68691bf9314035e7decf024c6f1d9bca5682a6c15cf83009de", func := "jalousie/jalousielaw14.VectorReckons", spec := "vectorReckons", apart := false, narrowed := true }
def VectorReckonsUptoSaid : Prop := vectorReckonsUptoRow.holds Try.pinned (OpenSpec.upto vectorReckonsSpec)

/-- 'jalousielaw18.ItemLater', WHERE WHAT IT READS IS OF BULK AT MOST 1048576: true; the input reads as it did. -/
def itemLaterUptoRow : OpenClaim := { program := "ytmmaiohnfphcjaa", sum := "b0b92e77cd992b68691bf9314035e7decf024c6f1d9bca5682a6c15cf83009de", func := "jalousie/jalousielaw18.ItemLater", spec := "itemLater", apart := false, narrowed := true }
def ItemLaterUptoSaid : Prop := itemLaterUptoRow.holds Try.pinned (OpenSpec.upto itemLaterSpec)

/-- 'jalousielaw17.GroupKeeps', WHERE WHAT IT READS IS OF BULK AT MOST 1048576: true; the input reads as it did. -/
def groupKeepsUptoRow : OpenClaim := { program := "ytmmaiohnfphcjaa", sum := "b0b92e77cd992b68691bf9314035e7decf024c6f1d9bca5682a6c15cf83009de", func := "jalousie/jalousielaw17.GroupKeeps", spec := "groupKeeps", apart := false, narrowed := true }
def GroupKeepsUptoSaid : Prop := groupKeepsUptoRow.holds Try.pinned (OpenSpec.upto groupKeepsSpec)

/-- 'jalousielaw17.GroupCounts', WHERE WHAT IT READS IS OF BULK AT MOST 1048576: true; the input reads as it did. -/
def groupCountsUptoRow : OpenClaim := { program := "ytmmaiohnfphcjaa", sum := "b0b92e77cd992b68691bf9314035e7decf024c6f1d9bca5682a6c15cf83009de", func := "jalousie/jalousielaw17.GroupCounts", spec := "groupCounts", apart := false, narrowed := true }
def GroupCountsUptoSaid : Prop := groupCountsUptoRow.holds Try.pinned (OpenSpec.upto groupCountsSpec)

/-- 'jalousielaw17.GroupOps', WHERE WHAT IT READS IS OF BULK AT MOST 1048576: true; the input reads as it did. -/
def groupOpsUptoRow : OpenClaim := { program := "ytmmaiohnfphcjaa", sum := "b0b92e77cd992b68691bf9314035e7decf024c6f1d9bca5682a6c15cf83009de", func := "jalousie/jalousielaw17.GroupOps", spec := "groupOps", apart := false, narrowed := true }
def GroupOpsUptoSaid : Prop := groupOpsUptoRow.holds Try.pinned (OpenSpec.upto groupOpsSpec)

/-- 'jalousielaw17.GroupFolds', WHERE WHAT IT READS IS OF BULK AT MOST 1048576: true; the input reads as it did. -/
def groupFoldsUptoRow : OpenClaim := { program := "ytmmaiohnfphcjaa", sum := "b0b92e77cd992b68691bf9314035e7decf024c6f1d9bca5682a6c15cf83009de", func := "jalousie/jalousielaw17.GroupFolds", spec := "groupFolds", apart := false, narrowed := true }
def GroupFoldsUptoSaid : Prop := groupFoldsUptoRow.holds Try.pinned (OpenSpec.upto groupFoldsSpec)

end Rows
end Go.Proofs.Ytmmaiohnfphcjaa
