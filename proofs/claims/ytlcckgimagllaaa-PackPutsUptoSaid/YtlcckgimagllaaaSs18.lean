/- append of a made slice onto nil. -/
import Derived.Test.YtlcckgimagllaaaSs17
import Derived.Lib.AppendZerosOnto
namespace Go.Proofs.Ytlcckgimagllaaa
open Go Go.RowKit
set_option linter.unusedVariables false
section
variable {P : Program} {n m d : Nat} {T : List (Nat × Value)} {X : List Nat} {w0 : World} {L L' : List Chunk} {K : Act → World → Prop} {Q : Exit → Act → World → Prop} {x y : Operand} {ty t e t2 : TypeId} {pos : String} {af : Array Edge} {gu : Option (Nat × Bool)}
theorem e_appZ {k bytes : Nat} {zz : Value} (hx : ev T x = some (.slice none 0 0)) (hy : ev T y = some (.int .i64 (k : Int))) (hd : Nat.blt d n = true)
    [hu : UT P t (.slice e)] [hu2 : UT P t2 (.int .i64)] [hs : SzT P e 1] [hb : ByT P e bytes] [hz : ZrT P e #[zz]] (h0 : 0 < k) (hby : k * bytes ≤ 140737488355328) (hk : k ≤ 4611686018427387904)
    (h : ∀ cap', k ≤ cap' → cap' ≤ 9223372036854775807 → ∀ a w, SS n ((d, .slice (some ⟨m, 0, none⟩) k cap') :: T) X w0 (m + 1) (.sl (some ⟨m, 0, none⟩) cap' e 1 [] :: L) a w → K a w) :
    ∀ a w, SS n T X w0 m L a w → OW P ⟨some d, .call { callee := .builtin .append, args := #[x, y], argTypes := #[t, t2] }, ty, pos, af, gu⟩ K Q a w := by
  intro a w hs'
  obtain ⟨hA, hC, rfl, hL⟩ := hs'
  obtain ⟨it, z, h1, h2, h3⟩ := zeroOf_spec hz.h
  have hs1 := hs.h
  have hb1 := hb.h
  simp only [h1, Option.map_some, Option.some.injEq] at hs1 hb1
  have hr := Lib.run_append_grow_zeros (P := P) w t t2 ty e it z .i64 .i64 hu.h hu2.h h1 h2 none 0 0 [] (run_firstCells_none w.drew it.size 0 0 0) k h0 (by omega) (by omega) (by omega) (by rw [hb1]; omega) (growslice_fits (by omega) (by rw [hb1, Nat.zero_add]; exact hby))
  rw [Nat.zero_add] at hr
  have hL0 : Has L w.drew := hL.drew _
  have hC0 : Ch X w0 w.drew := hC.drew _
  have hge := grownCap_ge w k 0 e
  have hle := grownCap_le_maxLen w k 0 e (by simp only [maxLen]; omega)
  obtain ⟨G, hG⟩ : ∃ G, G = grownCap w k 0 e := ⟨_, rfl⟩
  rw [← hG] at hr hge hle
  have hcz : ([].toArray ++ Builtin.zeroCells z.cells k ++ Builtin.zeroCells z.cells (G - k)).size = G := by
    simp [size_zeroCells, h3]; omega
  generalize ([].toArray ++ Builtin.zeroCells z.cells k ++ Builtin.zeroCells z.cells (G - k)) = C at hr hcz
  have h4 := hL0.alloc (.cells C e)
  refine wp_value (w' := w.drew.alloc (.cells C e)) (v := .slice (some ⟨w.heap.size, 0, none⟩) k G) ?_ (h G hge (by simpa [maxLen] using hle) _ _ ⟨hA.put _ hd, hC0.alloc _, by simp, ?_⟩)
  · simp only [execOp, resolve, Sem.run_bind, Sem.run_pure, Result.andThen_ok, invoke, List.map_toArray, List.map_cons, List.map_nil, hA.eval hx, hA.eval hy, builtin, hr]
  · exact Has.repl (w := w.drew.alloc (.cells C e)) (c := .blk w.heap.size (.cells C e)) .here h4 (fun k hk => .inl (by simpa [Chunk.foot] using hk)) (.inr ⟨w.heap.size, C, rfl, h4.ok _ (List.mem_cons_self ..), by rw [hcz, Nat.mul_one], rfl⟩) (fun _ _ _ => rfl)
end
end Go.Proofs.Ytlcckgimagllaaa
