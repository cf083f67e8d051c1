/- ChaCha20: keys and nonces as they come in. -/
import Derived.Test.YtaeiknpiofnmeaaDoorRead
import Derived.Test.YtaeiknpiofnmeaaDoorMem
namespace Go.Proofs.YtaeiknpiofnmeaaDoor
open Go Go.ChangeShapes Go.WideShapes Go.ChangeAt Go.RowKit
set_option linter.unusedVariables false

theorem bytes32_of {P : Program} {w : World} {T E : TypeId} (hU : P.underlying T = some (.array 32 E)) (hE : P.underlying E = some (.int .u8)) (hc : P.cellsOf E = 1) (hcT : P.cellsOf T = 32) {v : Value} {r : Reach} {base : Nat} (hok : Value.okWide P w r base T v) (h : Reads P w T v.cells.toList) :
    ∃ f : Nat → Int, (∀ i, 0 ≤ f i ∧ f i ≤ 255) ∧ v = .agg #[.int .u8 (f 0), .int .u8 (f 1), .int .u8 (f 2), .int .u8 (f 3), .int .u8 (f 4), .int .u8 (f 5), .int .u8 (f 6), .int .u8 (f 7), .int .u8 (f 8), .int .u8 (f 9), .int .u8 (f 10), .int .u8 (f 11), .int .u8 (f 12), .int .u8 (f 13), .int .u8 (f 14), .int .u8 (f 15), .int .u8 (f 16), .int .u8 (f 17), .int .u8 (f 18), .int .u8 (f 19), .int .u8 (f 20), .int .u8 (f 21), .int .u8 (f 22), .int .u8 (f 23), .int .u8 (f 24), .int .u8 (f 25), .int .u8 (f 26), .int .u8 (f 27), .int .u8 (f 28), .int .u8 (f 29), .int .u8 (f 30), .int .u8 (f 31)] := by
  obtain ⟨cs, rfl⟩ := okWide_row (.inl ⟨_, _, hU⟩) hok
  obtain ⟨xs, h1, h2, h3⟩ := h.ints hU hE hc hcT
  refine ⟨fun i => xs.getD i 0, fun i => ?_, ?_⟩
  · by_cases hi : i < xs.length
    · have := bounds_u8 (h3 (xs[i]) (List.getElem_mem hi))
      simpa [List.getD, hi] using this
    · simp [List.getD, hi]
  · match xs, h1 with
    | [x0, x1, x2, x3, x4, x5, x6, x7, x8, x9, x10, x11, x12, x13, x14, x15, x16, x17, x18, x19, x20, x21, x22, x23, x24, x25, x26, x27, x28, x29, x30, x31], _ =>
      have e : cs.toList = [Value.int .u8 x0, Value.int .u8 x1, Value.int .u8 x2, Value.int .u8 x3, Value.int .u8 x4, Value.int .u8 x5, Value.int .u8 x6, Value.int .u8 x7, Value.int .u8 x8, Value.int .u8 x9, Value.int .u8 x10, Value.int .u8 x11, Value.int .u8 x12, Value.int .u8 x13, Value.int .u8 x14, Value.int .u8 x15, Value.int .u8 x16, Value.int .u8 x17, Value.int .u8 x18, Value.int .u8 x19, Value.int .u8 x20, Value.int .u8 x21, Value.int .u8 x22, Value.int .u8 x23, Value.int .u8 x24, Value.int .u8 x25, Value.int .u8 x26, Value.int .u8 x27, Value.int .u8 x28, Value.int .u8 x29, Value.int .u8 x30, Value.int .u8 x31] := by simpa [Value.cells] using h2
      congr 1
      apply Array.ext'
      simpa using e

theorem bytes12_of {P : Program} {w : World} {T E : TypeId} (hU : P.underlying T = some (.array 12 E)) (hE : P.underlying E = some (.int .u8)) (hc : P.cellsOf E = 1) (hcT : P.cellsOf T = 12) {v : Value} {r : Reach} {base : Nat} (hok : Value.okWide P w r base T v) (h : Reads P w T v.cells.toList) :
    ∃ f : Nat → Int, (∀ i, 0 ≤ f i ∧ f i ≤ 255) ∧ v = .agg #[.int .u8 (f 0), .int .u8 (f 1), .int .u8 (f 2), .int .u8 (f 3), .int .u8 (f 4), .int .u8 (f 5), .int .u8 (f 6), .int .u8 (f 7), .int .u8 (f 8), .int .u8 (f 9), .int .u8 (f 10), .int .u8 (f 11)] := by
  obtain ⟨cs, rfl⟩ := okWide_row (.inl ⟨_, _, hU⟩) hok
  obtain ⟨xs, h1, h2, h3⟩ := h.ints hU hE hc hcT
  refine ⟨fun i => xs.getD i 0, fun i => ?_, ?_⟩
  · by_cases hi : i < xs.length
    · have := bounds_u8 (h3 (xs[i]) (List.getElem_mem hi))
      simpa [List.getD, hi] using this
    · simp [List.getD, hi]
  · match xs, h1 with
    | [x0, x1, x2, x3, x4, x5, x6, x7, x8, x9, x10, x11], _ =>
      have e : cs.toList = [Value.int .u8 x0, Value.int .u8 x1, Value.int .u8 x2, Value.int .u8 x3, Value.int .u8 x4, Value.int .u8 x5, Value.int .u8 x6, Value.int .u8 x7, Value.int .u8 x8, Value.int .u8 x9, Value.int .u8 x10, Value.int .u8 x11] := by simpa [Value.cells] using h2
      congr 1
      apply Array.ext'
      simpa using e
end Go.Proofs.YtaeiknpiofnmeaaDoor
