/- A pointer compared with nil. -/
import Derived.Test.YtlcckgimagllaaaSs17
import Derived.Laws.Pointers
namespace Go.Proofs.Ytlcckgimagllaaa
open Go Go.RowKit
set_option linter.unusedVariables false
section
variable {P : Program} {T : List (Nat × Value)} {X : List Nat} {w0 : World} {L : List Chunk} {x y : Operand} {dst : Option Tmp} {ty t e ty2 : TypeId} {pos : String} {af : Array Edge} {gu : Option (Nat × Bool)}
theorem q_neq_pnil {a : Addr} (hx : ev T x = some (.pointer (some a))) (hy : ev T y = some (.pointer none)) (hu : P.underlying t = some (.pointer (P.pointee t))) : Qt P X w0 ⟨dst, .binOp .neq t x y ty2, ty, pos, af, gu⟩ T L (.bool true) :=
  q_bin_val hx hy (fun w => by simp [eqGuard]) (fun w => by have h := run_neq_pointer_nil (P := P) w t (some a) hu; simpa using h)
end
end Go.Proofs.Ytlcckgimagllaaa
