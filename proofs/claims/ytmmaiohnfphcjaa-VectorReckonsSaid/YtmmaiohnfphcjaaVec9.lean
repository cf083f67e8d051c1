/- VectorReckons: round the walk. -/
import Derived.Test.YtmmaiohnfphcjaaVec8
import Derived.Test.YtmmaiohnfphcjaaVecIn
namespace Go.Proofs.Ytmmaiohnfphcjaa
open Go Go.ChangeShapes Go.WideShapes Go.ChangeAt Go.RowKit
set_option linter.unusedVariables false

theorem reckonsWalk {w0 : World} (a0 a1 a2 a3 a4 a5 : Int) (wa0 : 0 ≤ a0 ∧ a0 ≤ 18446744073709551615) (wa1 : 0 ≤ a1 ∧ a1 ≤ 18446744073709551615) (wa2 : 0 ≤ a2 ∧ a2 ≤ 18446744073709551615) (wa3 : 0 ≤ a3 ∧ a3 ≤ 18446744073709551615) (wa4 : 0 ≤ a4 ∧ a4 ≤ 18446744073709551615) (wa5 : 0 ≤ a5 ∧ a5 ≤ 18446744073709551615) (b0 b1 b2 b3 b4 b5 : Int) (wb0 : 0 ≤ b0 ∧ b0 ≤ 18446744073709551615) (wb1 : 0 ≤ b1 ∧ b1 ≤ 18446744073709551615) (wb2 : 0 ≤ b2 ∧ b2 ≤ 18446744073709551615) (wb3 : 0 ≤ b3 ∧ b3 ≤ 18446744073709551615) (wb4 : 0 ≤ b4 ∧ b4 ≤ 18446744073709551615) (wb5 : 0 ≤ b5 ∧ b5 ≤ 18446744073709551615) :
    Calls Try.prog 7 #[.agg #[.int .u64 a0, .int .u64 a1, .int .u64 a2, .int .u64 a3, .int .u64 a4, .int .u64 a5], .agg #[.int .u64 b0, .int .u64 b1, .int .u64 b2, .int .u64 b3, .int .u64 b4, .int .u64 b5]] w0 fun e w' => e = .returned (.bool true) ∧ Below w0.heap.size w0 w' :=
  reckons_raw a0 a1 a2 a3 a4 a5 b0 b1 b2 b3 b4 b5 (if a0 < b0 then b0 else a0) (if a1 < b1 then b1 else a1) (if a2 < b2 then b2 else a2) (if a3 < b3 then b3 else a3) (if a4 < b4 then b4 else a4) (if a5 < b5 then b5 else a5) (if b0 < a0 then b0 else a0) (if b1 < a1 then b1 else a1) (if b2 < a2 then b2 else a2) (if b3 < a3 then b3 else a3) (if b4 < a4 then b4 else a4) (if b5 < a5 then b5 else a5) wa0.1 wa0.2 wa1.1 wa1.2 wa2.1 wa2.2 wa3.1 wa3.2 wa4.1 wa4.2 wa5.1 wa5.2 wb0.1 wb0.2 wb1.1 wb1.2 wb2.1 wb2.2 wb3.1 wb3.2 wb4.1 wb4.2 wb5.1 wb5.2 rfl rfl rfl rfl rfl rfl rfl rfl rfl rfl rfl rfl w0
end Go.Proofs.Ytmmaiohnfphcjaa
