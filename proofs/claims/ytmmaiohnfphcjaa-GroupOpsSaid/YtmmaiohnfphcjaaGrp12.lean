/- GroupOps: round the walk. -/
import Derived.Test.YtmmaiohnfphcjaaGrp11
namespace Go.Proofs.Ytmmaiohnfphcjaa
open Go Go.ChangeShapes Go.WideShapes Go.ChangeAt Go.RowKit

theorem opsWalk {w0 : World} (a : Option Addr) (len cap : Nat) (sw so sm sc : Nat → Int) (hm : len ≤ maxLen) (hS : Steps w0 a len sw so sm sc) (q : Int) (_hq : (Lit.int .u64 q).wf = true) :
    Calls Try.prog 11 #[.slice a len cap, .int .u64 q] w0 fun e w' => e = .returned (.bool true) ∧ Below w0.heap.size w0 w' := by
  by_cases h : 60 < len
  · exact ops_long a len cap q w0 hm h
  · exact ops_short a len cap sw so sm sc q w0 hS (by omega)
end Go.Proofs.Ytmmaiohnfphcjaa
