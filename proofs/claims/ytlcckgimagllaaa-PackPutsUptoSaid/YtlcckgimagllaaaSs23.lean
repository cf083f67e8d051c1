/- A string's byte; a whole slice as a block and back. -/
import Derived.Test.YtlcckgimagllaaaSs17
import Derived.Test.YtlcckgimagllaaaSg
namespace Go.Proofs.Ytlcckgimagllaaa
open Go Go.RowKit
set_option linter.unusedVariables false
section
variable {P : Program} {n m : Nat} {T : List (Nat × Value)} {X : List Nat} {w0 : World} {L L' : List Chunk} {x y : Operand} {dst : Option Tmp} {ty t e ty2 : TypeId} {pos : String} {af : Array Edge} {gu : Option (Nat × Bool)} {F : Act → World → Prop}
theorem q_index_str {s : ByteArray} {k : IntKind} {i : Nat} {b : UInt8} (hx : ev T x = some (.string s)) (hy : ev T y = some (.int k (i : Int))) [hu : UT P t .string] (hb : s[i]? = some b) : Qt P X w0 ⟨dst, .index t x y, ty, pos, af, gu⟩ T L (.int .u8 b.toNat) := by
  refine ⟨?_⟩
  intro n ac w hA hC hL
  simp [execOp, hA.eval hx, hA.eval hy, Instr.index, asIntOf, run_underlying hu.h, hb]
theorem slblk {g cap : Nat} {xs : List Value} (hc : xs.length = cap) (hp : Pl (.sl (some ⟨g, 0, none⟩) cap e 1 xs) (.blk g (.cells xs.toArray e (0, 0))) L L') (h : ∀ a w, SS n T X w0 m L' a w → F a w) : ∀ a w, SS n T X w0 m L a w → F a w := by
  intro a w hs
  have hk := hs.has.ok _ hp.mem
  refine h a w ⟨hs.agr, hs.ch, hs.size, Has.repl hp hs.has (fun g hg => .inl (by simpa [Chunk.foot] using hg)) ?_ (fun _ _ _ => rfl)⟩
  simp only [Chunk.ok] at hk ⊢
  rcases hk with ⟨h1, _⟩ | ⟨g', cs, h1, h2, h3, h4⟩
  · cases h1
  · simp only [Option.some.injEq, Addr.mk.injEq, and_true] at h1
    subst h1
    rw [h2]
    congr 2
    have h5 : cs.toList = xs := by
      rw [← h4, List.take_of_length_le (by simp; omega)]
    rw [← h5, Array.toArray_toList]
theorem blksl {g cap : Nat} {xs : List Value} (hc : xs.length = cap) (hp : Pl (.blk g (.cells xs.toArray e (0, 0))) (.sl (some ⟨g, 0, none⟩) cap e 1 xs) L L') (h : ∀ a w, SS n T X w0 m L' a w → F a w) : ∀ a w, SS n T X w0 m L a w → F a w := by
  intro a w hs
  have hk := hs.has.ok _ hp.mem
  refine h a w ⟨hs.agr, hs.ch, hs.size, Has.repl hp hs.has (fun g hg => .inl (by simpa [Chunk.foot] using hg)) ?_ (fun _ _ _ => rfl)⟩
  simp only [Chunk.ok] at hk ⊢
  exact .inr ⟨g, _, rfl, hk, by simp [hc], by simp⟩
end
end Go.Proofs.Ytlcckgimagllaaa
