/- pack: lists of parts that come in. -/
import Derived.Test.YtlcckgimagllaaaPk13
namespace Go.Proofs.Ytlcckgimagllaaa
open Go Go.RowKit
set_option linter.unusedVariables false
set_option linter.unusedSimpArgs false
theorem part_reads {w : World} {c : List Value} (h : Reads Try.prog w 56 c) : ∃ p : PP, c = p.enc ∧ p.Ok w := by
  obtain ⟨hl, hf⟩ := h.struct Try.underlying56
  have hc : Try.prog.cellsOf 56 = 3 := by kernel_rfl
  have hi : Try.prog.cellsOf 5 = 1 := by kernel_rfl
  have hi2 : Try.prog.cellsOf 54 = 1 := by kernel_rfl
  have hu : Try.prog.cellsOf 31 = 1 := by kernel_rfl
  rw [hc] at hl
  match c, hl with
  | [c0, c1, c2], _ =>
    simp only [List.mem_cons, List.not_mem_nil, or_false, forall_eq_or_imp, forall_eq, hi, hi2, hu] at hf
    obtain ⟨h0, h1, h2⟩ := hf
    obtain ⟨x, hx, wx⟩ := h0.int Try.underlying5
    obtain ⟨y, hy, wy⟩ := h1.int Try.underlying54
    obtain ⟨a, len, cap, xs, hz, k1, k2, k3, k4, k5⟩ := h2.bytes Try.underlying31 Try.underlying5 (by kernel_rfl)
    simp at hx hy hz
    subst hx hy hz
    obtain ⟨b0, b1⟩ := bounds_u8 wx
    obtain ⟨d0, d1⟩ := bounds_u64 wy
    simp only [maxLen] at k3
    refine ⟨⟨x.toNat, y.toNat, a, len, cap, xs⟩, ?_, ⟨k4, k1, k2, by dsimp only; omega, k5, by dsimp only; omega, by dsimp only; omega⟩⟩
    unfold PP.enc
    rw [Int.toNat_of_nonneg b0, Int.toNat_of_nonneg d0]
theorem parts_of {w : World} {v : Value} {r : Reach} {base : Nat} (hok : Value.okWide Try.prog w r base 46 v) (h : Reads Try.prog w 46 v.cells.toList) :
    ∃ ap cp0 ps, v = .slice ap ps.length cp0 ∧ ps.length ≤ 9223372036854775807 ∧ (∀ p ∈ ps, p.Ok w) ∧ SlF PP.enc w ap ps := by
  obtain ⟨a, len, cap, rfl⟩ := WideShapes.okWide_slice Try.underlying46 hok
  have h' : Reads Try.prog w 46 [.slice a len cap] := h
  obtain ⟨ps, h1, h2, h3, h4, h5⟩ := h'.rows Try.underlying46 (sz := 3) (by kernel_rfl) (by omega) PP.enc (fun p => p.Ok w) (fun c hc => part_reads hc)
  subst h1
  exact ⟨a, cap, ps, rfl, by simp only [maxLen] at h3; omega, h5, h4⟩
theorem backWalk_ {w : World} (ap : Option Addr) (cp0 : Nat) (ps : List PP) (hpc : ps.length ≤ 9223372036854775807) (hps : ∀ p ∈ ps, p.Ok w) (hO : SlF PP.enc w ap ps) :
    Calls Try.prog 9 #[.slice ap ps.length cp0] w fun e w' => e = .returned (.bool true) ∧ Below w.heap.size w w' :=
  below_ret (back_law w ps ap cp0 hpc hps hO)
end Go.Proofs.Ytlcckgimagllaaa
