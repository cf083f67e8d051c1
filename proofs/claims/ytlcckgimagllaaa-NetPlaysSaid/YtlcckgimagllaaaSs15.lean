/- append of whatever list: nil, or one that is read. -/
import Derived.Test.YtlcckgimagllaaaSs10
namespace Go.Proofs.Ytlcckgimagllaaa
open Go Go.RowKit
set_option linter.unusedVariables false
section
variable {P : Program} {n m d : Nat} {T : List (Nat × Value)} {X : List Nat} {w0 : World} {L L' : List Chunk} {K : Act → World → Prop} {Q : Exit → Act → World → Prop} {x y : Operand} {ty t e : TypeId} {pos : String} {af : Array Edge} {gu : Option (Nat × Bool)}
theorem e_appN {b : Option Addr} {len cap c2 sz : Nat} {xs : List Value} (hx : ev T x = some (.slice b len cap)) (hy : ev T y = some (.slice none 0 c2)) (hd : Nat.blt d n = true) [hu : UT P t (.slice e)] [hs : SzT P e sz]
    (hm : Chunk.sl b cap e sz xs ∈ L) (hlc : len ≤ cap) (hb : (b = none ∧ len = 0) ∨ ∃ g, b = some ⟨g, 0, none⟩)
    (h : ∀ a w, SS n ((d, .slice b len cap) :: T) X w0 m L a w → K a w) :
    ∀ a w, SS n T X w0 m L a w → OW P ⟨some d, .call { callee := .builtin .append, args := #[x, y], argTypes := #[t, t] }, ty, pos, af, gu⟩ K Q a w := by
  intro a w hs'
  obtain ⟨hA, hC, rfl, hL⟩ := hs'
  have hs1 := hs.h
  rw [Option.map_eq_some_iff] at hs1
  obtain ⟨i, hi, rfl⟩ := hs1
  have hsr := Src.ofNil (P := P) (size := i.size) w hu.h c2
  have hok := hL.ok _ hm
  simp only [Chunk.ok] at hok
  have hr : (Builtin.append_ #[t, t] ty #[.slice b len cap, .slice none 0 c2]).run P w = .ok (.slice b len cap) w := by
    rcases hb with ⟨rfl, rfl⟩ | ⟨g, rfl⟩
    · rcases hok with ⟨_, rfl, _⟩ | ⟨g, cs, h9, _⟩
      · simp [Builtin.append_, run_underlying hu.h, sizeOf, typeInfo, hi, hsr.len, hsr.cells]
      · cases h9
    · have := run_append_room_src (P := P) w t t ty e i hu.h hi g 0 len cap (.slice none 0 c2) 0 [] hsr (by omega) (by simp) (by simp)
      rw [Nat.add_zero] at this
      exact this
  refine wp_value (w' := w) (v := .slice b len cap) ?_ (h _ _ ⟨hA.put _ hd, hC, rfl, hL⟩)
  simp only [execOp, resolve, Sem.run_bind, Sem.run_pure, Result.andThen_ok, invoke, List.map_toArray, List.map_cons, List.map_nil, hA.eval hx, hA.eval hy, builtin, hr]
/-- A list onto a list of our own, whatever the list. -/
theorem e_appE {α : Type} (enc : α → Value) (zs ys : List α) {b a2 : Option Addr} {len cap bytes len2 cap2 : Nat} {zz : Value} (hx : ev T x = some (.slice b len cap)) (hy : ev T y = some (.slice a2 len2 cap2)) (hd : Nat.blt d n = true)
    [hu : UT P t (.slice e)] [hs : SzT P e 1] [hb : ByT P e bytes] [hz : ZrT P e #[zz]] (hr : Rm (.sl b cap e 1 (zs.map enc)) L L') (hv : Vw X w0 L a2 (ys.map enc))
    (hlen : zs.length = len) (hlen2 : ys.length = len2) (ho : OS X w0.heap.size b cap len) (hone : allOne (ys.map enc) = true) (hby : (len + len2) * bytes ≤ 140737488355328) (hl9 : len + len2 ≤ 9223372036854775807)
    (h : ∀ b' cap' m', OS X w0.heap.size b' cap' (len + len2) → m ≤ m' → ∀ a w, SS n ((d, .slice b' (len + len2) cap') :: T) X w0 m' (.sl b' cap' e 1 ((zs ++ ys).map enc) :: L') a w → K a w) :
    ∀ a w, SS n T X w0 m L a w → OW P ⟨some d, .call { callee := .builtin .append, args := #[x, y], argTypes := #[t, t] }, ty, pos, af, gu⟩ K Q a w := by
  rcases hv with ⟨rfl, h0⟩ | ⟨p, rfl, hR⟩
  · have hy0 : ys = [] := by simpa using h0
    subst hy0
    obtain rfl : len2 = 0 := by rw [← hlen2]; rfl
    rw [List.append_nil, Nat.add_zero] at h
    exact e_appN hx hy hd hr.mem ho.le ho.ob (frn hr (h b cap m ho (Nat.le_refl _)))
  · exact e_appL enc zs ys hx hy hd hr hR hlen hlen2 ho hone hby hl9 h
end
end Go.Proofs.Ytlcckgimagllaaa
