/- ItemLater: headers as they come in. -/
import Derived.Test.YtmmaiohnfphcjaaItem2
import Derived.Test.YtmmaiohnfphcjaaRead
namespace Go.Proofs.Ytmmaiohnfphcjaa
open Go Go.ChangeShapes Go.WideShapes Go.ChangeAt Go.RowKit
set_option linter.unusedVariables false

theorem take_one {l : List Value} {n : Nat} {v : Value} (h : (l.drop n).take 1 = [v]) : l[n]? = some v := by
  have := congrArg (fun k => k[0]?) h
  simpa using this

theorem hd_of {w : World} {v : Value} {r : Reach} {base : Nat} (hok : Value.okWide Try.prog w r base 48 v) (h : Reads Try.prog w 48 v.cells.toList) :
    ∃ cs t x s, v = .agg cs ∧ Hd cs t x s := by
  obtain ⟨cs, rfl⟩ := okWide_row (.inr ⟨_, Try.underlying48⟩) hok
  obtain ⟨hl, hf⟩ := h.struct Try.underlying48
  have hc : Try.prog.cellsOf 48 = 125 := by kernel_rfl
  have hi : Try.prog.cellsOf 3 = 1 := by kernel_rfl
  have hu : Try.prog.cellsOf 34 = 1 := by kernel_rfl
  rw [hc] at hl
  simp only [List.mem_cons, List.not_mem_nil, or_false, forall_eq_or_imp, forall_eq, hi, hu] at hf
  obtain ⟨h0, h1, h2, h3, h4, h5, _⟩ := hf
  obtain ⟨x, hx, _⟩ := h0.int Try.underlying3
  obtain ⟨s, hs, _⟩ := h1.int Try.underlying34
  obtain ⟨t, ht, _⟩ := h5.int Try.underlying34
  refine ⟨cs, t, x, s, rfl, by simpa [Value.cells] using hl, ?_, ?_, ?_⟩
  · simpa [Value.cells] using take_one ht
  · simpa [Value.cells] using take_one hx
  · simpa [Value.cells] using take_one hs

theorem itemLaterWalk {w0 : World} (ca cb cc : Array Value) (ta xa sa tb xb sb tc xc sc : Int) (HA : Hd ca ta xa sa) (HB : Hd cb tb xb sb) (HC : Hd cc tc xc sc) :
    Calls Try.prog 8 #[.agg ca, .agg cb, .agg cc] w0 fun e w' => e = .returned (.bool true) ∧ Below w0.heap.size w0 w' :=
  itemLater_any ca cb cc ta xa sa tb xb sb tc xc sc HA HB HC w0
end Go.Proofs.Ytmmaiohnfphcjaa
