/- VectorJoins: round the walk. -/
import Derived.Test.YtmmaiohnfphcjaaVec5
import Derived.Test.YtmmaiohnfphcjaaMem
namespace Go.Proofs.Ytmmaiohnfphcjaa
open Go Go.ChangeShapes Go.WideShapes Go.ChangeAt Go.RowKit
set_option linter.unusedVariables false

theorem vec_of_trod {P : Program} {w : World} {T E : TypeId} (hU : P.underlying T = some (.array 6 E)) (hE : P.underlying E = some (.int .u64)) (hc : P.cellsOf E = 1) (hcT : P.cellsOf T = 6) {v : Value} {r : Reach} {base : Nat} (hok : Value.okWide P w r base T v) (h : Reads P w T v.cells.toList) :
    ∃ a0 a1 a2 a3 a4 a5 : Int, v = .agg #[.int .u64 a0, .int .u64 a1, .int .u64 a2, .int .u64 a3, .int .u64 a4, .int .u64 a5] ∧ (0 ≤ a0 ∧ a0 ≤ 18446744073709551615) ∧ (0 ≤ a1 ∧ a1 ≤ 18446744073709551615) ∧ (0 ≤ a2 ∧ a2 ≤ 18446744073709551615) ∧ (0 ≤ a3 ∧ a3 ≤ 18446744073709551615) ∧ (0 ≤ a4 ∧ a4 ≤ 18446744073709551615) ∧ (0 ≤ a5 ∧ a5 ≤ 18446744073709551615) := by
  obtain ⟨cs, rfl⟩ := okWide_row (.inl ⟨_, _, hU⟩) hok
  obtain ⟨xs, h1, h2, h3⟩ := h.ints hU hE hc hcT
  match xs, h1 with
  | [x0, x1, x2, x3, x4, x5], _ =>
    refine ⟨x0, x1, x2, x3, x4, x5, ?_, bounds_u64 (h3 x0 (by simp)), bounds_u64 (h3 x1 (by simp)), bounds_u64 (h3 x2 (by simp)), bounds_u64 (h3 x3 (by simp)), bounds_u64 (h3 x4 (by simp)), bounds_u64 (h3 x5 (by simp))⟩
    have : cs.toList = [Value.int .u64 x0, Value.int .u64 x1, Value.int .u64 x2, Value.int .u64 x3, Value.int .u64 x4, Value.int .u64 x5] := by simpa [Value.cells] using h2
    rw [← this]

theorem joinsWalk (a0 a1 a2 a3 a4 a5 : Int) (wa0 : 0 ≤ a0 ∧ a0 ≤ 18446744073709551615) (wa1 : 0 ≤ a1 ∧ a1 ≤ 18446744073709551615) (wa2 : 0 ≤ a2 ∧ a2 ≤ 18446744073709551615) (wa3 : 0 ≤ a3 ∧ a3 ≤ 18446744073709551615) (wa4 : 0 ≤ a4 ∧ a4 ≤ 18446744073709551615) (wa5 : 0 ≤ a5 ∧ a5 ≤ 18446744073709551615) (b0 b1 b2 b3 b4 b5 : Int) (wb0 : 0 ≤ b0 ∧ b0 ≤ 18446744073709551615) (wb1 : 0 ≤ b1 ∧ b1 ≤ 18446744073709551615) (wb2 : 0 ≤ b2 ∧ b2 ≤ 18446744073709551615) (wb3 : 0 ≤ b3 ∧ b3 ≤ 18446744073709551615) (wb4 : 0 ≤ b4 ∧ b4 ≤ 18446744073709551615) (wb5 : 0 ≤ b5 ∧ b5 ≤ 18446744073709551615) (c0 c1 c2 c3 c4 c5 : Int) (w : World) :
    Calls Try.prog 6 #[.agg #[.int .u64 a0, .int .u64 a1, .int .u64 a2, .int .u64 a3, .int .u64 a4, .int .u64 a5], .agg #[.int .u64 b0, .int .u64 b1, .int .u64 b2, .int .u64 b3, .int .u64 b4, .int .u64 b5], .agg #[.int .u64 c0, .int .u64 c1, .int .u64 c2, .int .u64 c3, .int .u64 c4, .int .u64 c5]] w fun e w' => e = .returned (.bool true) ∧ Below w.heap.size w w' := by
  obtain ⟨j0, j1, j2, j3, j4, j5, hj0, hj1, hj2, hj3, hj4, hj5⟩ : ∃ j0 j1 j2 j3 j4 j5 : Int, (if a0 < b0 then b0 else a0) = j0 ∧ (if a1 < b1 then b1 else a1) = j1 ∧ (if a2 < b2 then b2 else a2) = j2 ∧ (if a3 < b3 then b3 else a3) = j3 ∧ (if a4 < b4 then b4 else a4) = j4 ∧ (if a5 < b5 then b5 else a5) = j5 := ⟨_, _, _, _, _, _, rfl, rfl, rfl, rfl, rfl, rfl⟩
  obtain ⟨m0, m1, m2, m3, m4, m5, hm0, hm1, hm2, hm3, hm4, hm5⟩ : ∃ m0 m1 m2 m3 m4 m5 : Int, (if b0 < a0 then b0 else a0) = m0 ∧ (if b1 < a1 then b1 else a1) = m1 ∧ (if b2 < a2 then b2 else a2) = m2 ∧ (if b3 < a3 then b3 else a3) = m3 ∧ (if b4 < a4 then b4 else a4) = m4 ∧ (if b5 < a5 then b5 else a5) = m5 := ⟨_, _, _, _, _, _, rfl, rfl, rfl, rfl, rfl, rfl⟩
  have hk0 : (if b0 < a0 then a0 else b0) = j0 := by rw [← hj0]; split <;> split <;> omega
  have lj0 : a0 ≤ j0 ∧ b0 ≤ j0 ∧ (j0 = a0 ∨ j0 = b0) := by rw [← hj0]; split <;> omega
  have lm0 : m0 ≤ a0 ∧ m0 ≤ b0 := by rw [← hm0]; split <;> omega
  have z0 : md j0 a0 = 0 := md_no (by omega)
  have hk1 : (if b1 < a1 then a1 else b1) = j1 := by rw [← hj1]; split <;> split <;> omega
  have lj1 : a1 ≤ j1 ∧ b1 ≤ j1 ∧ (j1 = a1 ∨ j1 = b1) := by rw [← hj1]; split <;> omega
  have lm1 : m1 ≤ a1 ∧ m1 ≤ b1 := by rw [← hm1]; split <;> omega
  have z1 : md j1 a1 = 0 := md_no (by omega)
  have hk2 : (if b2 < a2 then a2 else b2) = j2 := by rw [← hj2]; split <;> split <;> omega
  have lj2 : a2 ≤ j2 ∧ b2 ≤ j2 ∧ (j2 = a2 ∨ j2 = b2) := by rw [← hj2]; split <;> omega
  have lm2 : m2 ≤ a2 ∧ m2 ≤ b2 := by rw [← hm2]; split <;> omega
  have z2 : md j2 a2 = 0 := md_no (by omega)
  have hk3 : (if b3 < a3 then a3 else b3) = j3 := by rw [← hj3]; split <;> split <;> omega
  have lj3 : a3 ≤ j3 ∧ b3 ≤ j3 ∧ (j3 = a3 ∨ j3 = b3) := by rw [← hj3]; split <;> omega
  have lm3 : m3 ≤ a3 ∧ m3 ≤ b3 := by rw [← hm3]; split <;> omega
  have z3 : md j3 a3 = 0 := md_no (by omega)
  have hk4 : (if b4 < a4 then a4 else b4) = j4 := by rw [← hj4]; split <;> split <;> omega
  have lj4 : a4 ≤ j4 ∧ b4 ≤ j4 ∧ (j4 = a4 ∨ j4 = b4) := by rw [← hj4]; split <;> omega
  have lm4 : m4 ≤ a4 ∧ m4 ≤ b4 := by rw [← hm4]; split <;> omega
  have z4 : md j4 a4 = 0 := md_no (by omega)
  have hk5 : (if b5 < a5 then a5 else b5) = j5 := by rw [← hj5]; split <;> split <;> omega
  have lj5 : a5 ≤ j5 ∧ b5 ≤ j5 ∧ (j5 = a5 ∨ j5 = b5) := by rw [← hj5]; split <;> omega
  have lm5 : m5 ≤ a5 ∧ m5 ≤ b5 := by rw [← hm5]; split <;> omega
  have z5 : md j5 a5 = 0 := md_no (by omega)
  refine joins_raw a0 a1 a2 a3 a4 a5 b0 b1 b2 b3 b4 b5 c0 c1 c2 c3 c4 c5 j0 j1 j2 j3 j4 j5 m0 m1 m2 m3 m4 m5 (by omega) (by omega) (by omega) (by omega) (by omega) (by omega) (by omega) (by omega) (by omega) (by omega) (by omega) (by omega) hj0 hj1 hj2 hj3 hj4 hj5 hm0 hm1 hm2 hm3 hm4 hm5 hk0 hk1 hk2 hk3 hk4 hk5 (by simp [gr]; omega) (by simp [gr]; omega) (by simp [gr]; omega) (by simp [gr]; omega) _ _ rfl rfl ?_ z0 z1 z2 z3 z4 z5 (by omega) (by omega) (by omega) (by omega) (by omega) (by omega) (by omega) (by omega) (by omega) (by omega) (by omega) (by omega) w
  simp only [gr]
  rw [Bool.eq_iff_iff]
  simp only [Bool.and_eq_true, decide_eq_true_eq]
  omega
end Go.Proofs.Ytmmaiohnfphcjaa
