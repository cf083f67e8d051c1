/- Contracts of package group. -/
import Derived.Test.YtmmaiohnfphcjaaGrp3
import Derived.Test.YtmmaiohnfphcjaaU
import Derived.Test.YtmmaiohnfphcjaaEq
import Derived.RegionTactic
import Derived.BigRegion
import Derived.Deep.QuietTactic
import Derived.BigQuiet
import Derived.WalkSmall
import Derived.Laws.StructEq
import Derived.WalkLawsBesides
namespace Go.Proofs.Ytmmaiohnfphcjaa
open Go Go.ChangeShapes Go.WideShapes Go.ChangeAt Go.RowKit
set_option linter.unusedVariables false

set_option maxRecDepth 100000 in
set_option maxHeartbeats 1600000 in
theorem neq_group (H : Gp) (v : World) : (binOp .neq 54 (.agg #[.int .i64 H.o, .int .i64 H.e, .bool (H.m 0), .bool (H.m 1), .bool (H.m 2), .bool (H.m 3), .bool (H.m 4), .bool (H.m 5), .bool (H.g 0), .bool (H.g 1), .bool (H.g 2), .bool (H.g 3), .bool (H.g 4), .bool (H.g 5), .int .u64 (H.c 0), .int .u64 (H.c 1), .int .u64 (H.c 2), .int .u64 (H.c 3), .int .u64 (H.c 4), .int .u64 (H.c 5), .int .i64 H.s]) (.agg #[.int .i64 H.o, .int .i64 H.e, .bool (H.m 0), .bool (H.m 1), .bool (H.m 2), .bool (H.m 3), .bool (H.m 4), .bool (H.m 5), .bool (H.g 0), .bool (H.g 1), .bool (H.g 2), .bool (H.g 3), .bool (H.g 4), .bool (H.g 5), .int .u64 (H.c 0), .int .u64 (H.c 1), .int .u64 (H.c 2), .int .u64 (H.c 3), .int .u64 (H.c 4), .int .u64 (H.c 5), .int .i64 H.s])).run Try.prog v = .ok (.bool false) v := by
  rw [run_neq_struct, run_equalIn_struct v 9999 54 _ _ (by kernel_rfl) (by kernel_rfl)]
  have h1 : (Op.equalIn 9999 52 (.agg #[.bool (H.m 0), .bool (H.m 1), .bool (H.m 2), .bool (H.m 3), .bool (H.m 4), .bool (H.m 5)]) (.agg #[.bool (H.m 0), .bool (H.m 1), .bool (H.m 2), .bool (H.m 3), .bool (H.m 4), .bool (H.m 5)])).run Try.prog v = .ok true v := by
    have := run_equalIn_bools (P := Try.prog) v 9997 52 4 6 Try.underlying52 Try.underlying4 (fun w => by kernel_rfl) [H.m 0, H.m 1, H.m 2, H.m 3, H.m 4, H.m 5] [H.m 0, H.m 1, H.m 2, H.m 3, H.m 4, H.m 5] rfl rfl
    simpa using this
  have h2 : (Op.equalIn 9999 52 (.agg #[.bool (H.g 0), .bool (H.g 1), .bool (H.g 2), .bool (H.g 3), .bool (H.g 4), .bool (H.g 5)]) (.agg #[.bool (H.g 0), .bool (H.g 1), .bool (H.g 2), .bool (H.g 3), .bool (H.g 4), .bool (H.g 5)])).run Try.prog v = .ok true v := by
    have := run_equalIn_bools (P := Try.prog) v 9997 52 4 6 Try.underlying52 Try.underlying4 (fun w => by kernel_rfl) [H.g 0, H.g 1, H.g 2, H.g 3, H.g 4, H.g 5] [H.g 0, H.g 1, H.g 2, H.g 3, H.g 4, H.g 5] rfl rfl
    simpa using this
  have h3 : (Op.equalIn 9999 35 (.agg #[.int .u64 (H.c 0), .int .u64 (H.c 1), .int .u64 (H.c 2), .int .u64 (H.c 3), .int .u64 (H.c 4), .int .u64 (H.c 5)]) (.agg #[.int .u64 (H.c 0), .int .u64 (H.c 1), .int .u64 (H.c 2), .int .u64 (H.c 3), .int .u64 (H.c 4), .int .u64 (H.c 5)])).run Try.prog v = .ok true v := by
    have := run_equalIn_ints (P := Try.prog) v 9997 35 34 6 .u64 Try.underlying35 Try.underlying34 (fun w => by kernel_rfl) [H.c 0, H.c 1, H.c 2, H.c 3, H.c 4, H.c 5] [H.c 0, H.c 1, H.c 2, H.c 3, H.c 4, H.c 5] rfl rfl
    simpa using this
  simp only [Program.fieldsOf, Try.underlying54]

  simp [Op.eqFields, go_sem, h1, h2, h3]
end Go.Proofs.Ytmmaiohnfphcjaa
