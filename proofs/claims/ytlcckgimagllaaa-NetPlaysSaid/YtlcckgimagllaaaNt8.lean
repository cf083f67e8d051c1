/- net: letters that come in. -/
import Derived.Test.YtlcckgimagllaaaNt7
import Derived.Test.YtlcckgimagllaaaRl
namespace Go.Proofs.Ytlcckgimagllaaa
open Go Go.RowKit
set_option linter.unusedVariables false
set_option linter.unusedSimpArgs false
theorem letter_reads {w : World} {c : List Value} (h : Reads Try.prog w 33 c) : ∃ f t a len cap xs, c = [.int .i64 f, .int .i64 t, .slice a len cap] ∧ xs.length = len ∧ len ≤ cap ∧ cap ≤ maxLen ∧ SlE (Value.int .u8) w a xs ∧ ∀ x ∈ xs, 0 ≤ x ∧ x ≤ 255 := by
  obtain ⟨hl, hf⟩ := h.struct Try.underlying33
  have hc : Try.prog.cellsOf 33 = 3 := by kernel_rfl
  have hi : Try.prog.cellsOf 3 = 1 := by kernel_rfl
  have hu : Try.prog.cellsOf 31 = 1 := by kernel_rfl
  rw [hc] at hl
  match c, hl with
  | [c0, c1, c2], _ =>
    simp only [List.mem_cons, List.not_mem_nil, or_false, forall_eq_or_imp, forall_eq, hi, hu] at hf
    obtain ⟨h0, h1, h2⟩ := hf
    obtain ⟨x, hx, _⟩ := h0.int Try.underlying3
    obtain ⟨y, hy, _⟩ := h1.int Try.underlying3
    obtain ⟨a, len, cap, xs, hz, k1, k2, k3, k4, k5⟩ := h2.bytes Try.underlying31 Try.underlying5 (by kernel_rfl)
    simp at hx hy hz
    subst hx hy hz
    exact ⟨_, _, _, _, _, _, rfl, k1, k2, k3, k4, k5⟩
theorem letter_of {w : World} {v : Value} {r : Reach} {base : Nat} (hok : Value.okWide Try.prog w r base 33 v) (h : Reads Try.prog w 33 v.cells.toList) :
    ∃ f t a len cap xs, v = .agg #[.int .i64 f, .int .i64 t, .slice a len cap] ∧ xs.length = len ∧ len ≤ cap ∧ SlE (Value.int .u8) w a xs ∧ ∀ x ∈ xs, 0 ≤ x ∧ x ≤ 255 := by
  obtain ⟨cs, rfl⟩ := okWide_row (.inr ⟨_, Try.underlying33⟩) hok
  have h' : Reads Try.prog w 33 cs.toList := h
  obtain ⟨f, t, a, len, cap, xs, e, k1, k2, k3, k4, k5⟩ := letter_reads h'
  exact ⟨f, t, a, len, cap, xs, by rw [← Array.toArray_toList (xs := cs), e], k1, k2, k4, k5⟩
theorem ownNWalk_ {w : World} (f t : Int) (a : Option Addr) (len cap : Nat) (xs : List Int) (hxl : xs.length = len) (hcap : len ≤ cap) (hs : SlE (Value.int .u8) w a xs) (hx : ∀ x ∈ xs, 0 ≤ x ∧ x ≤ 255) :
    Calls Try.prog 4 #[.agg #[.int .i64 f, .int .i64 t, .slice a len cap]] w fun e w' => e = .returned (.bool true) ∧ Below w.heap.size w w' :=
  below_ret (ownN_law f t a len cap xs hx hxl hcap w hs)
end Go.Proofs.Ytlcckgimagllaaa
