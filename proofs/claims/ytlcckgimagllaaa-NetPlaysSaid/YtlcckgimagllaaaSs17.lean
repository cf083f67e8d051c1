/- A slice compared with nil. -/
import Derived.Test.YtlcckgimagllaaaSs15
import Derived.Lib.SliceRun
namespace Go.Proofs.Ytlcckgimagllaaa
open Go Go.RowKit
set_option linter.unusedVariables false
section
variable {P : Program} {T : List (Nat × Value)} {X : List Nat} {w0 : World} {L : List Chunk} {x y : Operand} {dst : Option Tmp} {ty t e ty2 : TypeId} {pos : String} {af : Array Edge} {gu : Option (Nat × Bool)}
theorem q_eql_nil {a : Option Addr} {len cap n' c' : Nat} (hx : ev T x = some (.slice a len cap)) (hy : ev T y = some (.slice none n' c')) [hu : UT P t (.slice e)] : Qt P X w0 ⟨dst, .binOp .eql t x y ty2, ty, pos, af, gu⟩ T L (.bool a.isNone) :=
  q_bin_val hx hy (fun w => by simp [eqGuard]) (fun w => Lib.run_eql_slice_nil w _ _ a len cap n' c' hu.h)
end
end Go.Proofs.Ytlcckgimagllaaa
