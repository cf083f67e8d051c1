/- Vectors as they come in. -/
import Derived.Test.YtmmaiohnfphcjaaMem
namespace Go.Proofs.Ytmmaiohnfphcjaa
open Go Go.ChangeShapes Go.WideShapes Go.ChangeAt Go.RowKit
set_option linter.unusedVariables false

theorem vec_of_trod {P : Program} {w : World} {T E : TypeId} (hU : P.underlying T = some (.array 6 E)) (hE : P.underlying E = some (.int .u64)) (hc : P.cellsOf E = 1) (hcT : P.cellsOf T = 6) {v : Value} {r : Reach} {base : Nat} (hok : Value.okWide P w r base T v) (h : Reads P w T v.cells.toList) :
    ∃ a0 a1 a2 a3 a4 a5 : Int, v = .agg #[.int .u64 a0, .int .u64 a1, .int .u64 a2, .int .u64 a3, .int .u64 a4, .int .u64 a5] ∧ (0 ≤ a0 ∧ a0 ≤ 18446744073709551615) ∧ (0 ≤ a1 ∧ a1 ≤ 18446744073709551615) ∧ (0 ≤ a2 ∧ a2 ≤ 18446744073709551615) ∧ (0 ≤ a3 ∧ a3 ≤ 18446744073709551615) ∧ (0 ≤ a4 ∧ a4 ≤ 18446744073709551615) ∧ (0 ≤ a5 ∧ a5 ≤ 18446744073709551615) := by
  obtain ⟨cs, rfl⟩ := okWide_row (.inl ⟨_, _, hU⟩) hok
  obtain ⟨xs, h1, h2, h3⟩ := h.ints hU hE hc hcT
  match xs, h1 with
  | [x0, x1, x2, x3, x4, x5], _ =>
    refine ⟨x0, x1, x2, x3, x4, x5, ?_, bounds_u64 (h3 x0 (by simp)), bounds_u64 (h3 x1 (by simp)), bounds_u64 (h3 x2 (by simp)), bounds_u64 (h3 x3 (by simp)), bounds_u64 (h3 x4 (by simp)), bounds_u64 (h3 x5 (by simp))⟩
    have : cs.toList = [Value.int .u64 x0, Value.int .u64 x1, Value.int .u64 x2, Value.int .u64 x3, Value.int .u64 x4, Value.int .u64 x5] := by simpa [Value.cells] using h2
    rw [← this]

end Go.Proofs.Ytmmaiohnfphcjaa
