/- append of nil to nil. -/
import Derived.Test.YtaeiknpiofnmeaaDoorSs13
namespace Go.Proofs.YtaeiknpiofnmeaaDoor
open Go Go.RowKit
set_option linter.unusedVariables false
section
variable {P : Program} {n m d : Nat} {T : List (Nat × Value)} {X : List Nat} {w0 : World} {L : List Chunk} {K : Act → World → Prop} {Q : Exit → Act → World → Prop} {x y : Operand} {ty t e : TypeId} {pos : String} {af : Array Edge} {gu : Option (Nat × Bool)}
theorem e_append_nn {c2 sz : Nat} (hx : ev T x = some (.slice none 0 0)) (hy : ev T y = some (.slice none 0 c2)) (hd : Nat.blt d n = true) [hu : UT P t (.slice e)] [hs : SzT P e sz]
    (h : ∀ a w, SS n ((d, .slice none 0 0) :: T) X w0 m L a w → K a w) :
    ∀ a w, SS n T X w0 m L a w → OW P ⟨some d, .call { callee := .builtin .append, args := #[x, y], argTypes := #[t, t] }, ty, pos, af, gu⟩ K Q a w := by
  intro a w hs'
  obtain ⟨hA, hC, rfl, hL⟩ := hs'
  have hs1 := hs.h
  rw [Option.map_eq_some_iff] at hs1
  obtain ⟨i, hi, rfl⟩ := hs1
  have hsr := Src.ofNil (P := P) (size := i.size) w hu.h c2
  have hr : (Builtin.append_ #[t, t] ty #[.slice none 0 0, .slice none 0 c2]).run P w = .ok (.slice none 0 0) w := by
    simp [Builtin.append_, run_underlying hu.h, sizeOf, typeInfo, hi, hsr.len, hsr.cells]
  refine wp_value (w' := w) (v := .slice none 0 0) ?_ (h _ _ ⟨hA.put _ hd, hC, rfl, hL⟩)
  simp only [execOp, resolve, Sem.run_bind, Sem.run_pure, Result.andThen_ok, invoke, List.map_toArray, List.map_cons, List.map_nil, hA.eval hx, hA.eval hy, builtin, hr]
end
end Go.Proofs.YtaeiknpiofnmeaaDoor
