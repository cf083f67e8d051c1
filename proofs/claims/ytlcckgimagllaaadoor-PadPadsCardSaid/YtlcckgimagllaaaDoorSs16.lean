/- A string's bytes in a new block; a slice as a pointer to an array. -/
import Derived.Test.YtlcckgimagllaaaDoorSs10
import Derived.Laws.IdiomStrings
import Derived.Laws.Cover3
namespace Go.Proofs.YtlcckgimagllaaaDoor
open Go Go.RowKit
set_option linter.unusedVariables false
section
variable {P : Program} {n m d : Nat} {T : List (Nat × Value)} {X : List Nat} {w0 : World} {L L' : List Chunk} {K : Act → World → Prop} {Q : Exit → Act → World → Prop} {x y : Operand} {ty t e src : TypeId} {pos : String} {af : Array Edge} {gu : Option (Nat × Bool)}
theorem strOfNums_cells {xs : List Int} (h : ∀ x ∈ xs, 0 ≤ x ∧ x ≤ 255) : ((strOfNums xs).data.map fun b => Value.int .u8 (b.toNat : Int)).toList = xs.map (Value.int .u8) := by
  rw [Array.toList_map]
  have hd := strOfNums_data xs
  have e : (strOfNums xs).data.toList = xs.map (fun n => UInt8.ofNat n.toNat) := by simp [hd]
  rw [e, List.map_map]
  apply List.map_congr_left
  intro x hx
  obtain ⟨h0, h1⟩ := h x hx
  simp only [Function.comp, Value.int.injEq, true_and]
  have : (UInt8.ofNat x.toNat).toNat = x.toNat := by simp; omega
  rw [this]; omega
theorem e_s2b {xs : List Int} (hx : ev T x = some (.string (strOfNums xs))) (hxb : ∀ x ∈ xs, 0 ≤ x ∧ x ≤ 255) (hd : Nat.blt d n = true) [hs : UT P src .string] [hu : UT P t (.slice e)] [he : UT P e (.int .u8)]
    (hl9 : xs.length ≤ 9223372036854775807)
    (h : ∀ cap cs fr, xs.length ≤ cap → cap ≤ 9223372036854775807 → (cs.toList.drop 0).take xs.length = xs.map (Value.int .u8) → ∀ a w, SS n ((d, .slice (some ⟨m, 0, none⟩) xs.length cap) :: T) X w0 (m + 1) (.blk m (.cells cs e fr) :: L) a w → K a w) :
    ∀ a w, SS n T X w0 m L a w → OW P ⟨some d, .convert src t x, ty, pos, af, gu⟩ K Q a w := by
  intro a w hs'
  obtain ⟨hA, hC, rfl, hL⟩ := hs'
  have hr := run_bytes_of_string w src t e (strOfNums xs) hs.h hu.h he.h
  rw [strOfNums_size] at hr
  have hL0 : Has L w.drew := hL.drew _
  have hC0 : Ch X w0 w.drew := hC.drew _
  refine wp_value (by simp only [execOp, hA.eval hx]; rw [Sem.run_bind, hr]; rfl) (h _ _ _ (grownCap_ge w xs.length 0 e) (by have := grownCap_le_maxLen w xs.length 0 e (by simpa [maxLen] using hl9); simpa [maxLen] using this) ?_ _ _ ⟨hA.put _ hd, hC0.alloc _, by simp, hL0.alloc _⟩)
  rw [List.drop_zero]
  unfold bytesRow
  rw [Array.toList_append, strOfNums_cells hxb, List.take_append_of_le_length (by simp), List.take_of_length_le (by simp)]
theorem q_s2ap {k : Nat} {b : Option Addr} {len cap : Nat} {dst : Option Tmp} (hx : ev T x = some (.slice b len cap)) [hu : UT P t (.array k e)] (hk : k ≤ len) : Qt P X w0 ⟨dst, .sliceToArrayPointer t x, ty, pos, af, gu⟩ T L (.pointer b) := by
  refine ⟨?_⟩
  intro n a w hA hC hL
  simp [execOp, hA.eval hx, run_arrayAt (P := P) w t e k b len cap hu.h hk]
end
end Go.Proofs.YtlcckgimagllaaaDoor
