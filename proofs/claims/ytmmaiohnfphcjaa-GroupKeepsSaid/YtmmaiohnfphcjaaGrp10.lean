/- GroupKeeps: round the walk. -/
import Derived.Test.YtmmaiohnfphcjaaGrp6
namespace Go.Proofs.Ytmmaiohnfphcjaa
open Go Go.ChangeShapes Go.WideShapes Go.ChangeAt Go.RowKit

theorem keepsWalk {w0 : World} (a : Option Addr) (len cap : Nat) (sw so sm sc : Nat → Int) (hm : len ≤ maxLen) (hS : Steps w0 a len sw so sm sc) :
    Calls Try.prog 9 #[.slice a len cap] w0 fun e w' => e = .returned (.bool true) ∧ Below w0.heap.size w0 w' := by
  by_cases h : 60 < len
  · exact keeps_long a len cap w0 hm h
  · exact keeps_short a len cap sw so sm sc w0 hS (by omega)
end Go.Proofs.Ytmmaiohnfphcjaa
