/- Texts in pieces: what stands of a text at a place; what is held of it. No program in sight. -/
import Derived.Test.YtlcckgimagllaaaSs11
import Derived.Test.YtlcckgimagllaaaSlb
namespace Go.Proofs.Ytlcckgimagllaaa
open Go Go.RowKit
set_option linter.unusedVariables false
theorem seg {X : List Int} {d n k : Nat} (h : d + n ≤ X.length) (hk : n ≤ k) : (((X.drop d).take k).map (Value.int .u8)).take n = (List.range n).map fun q => Value.int .u8 (X.getD (d + q) 0) := by
  apply List.ext_getElem
  · simp; omega
  · intro i h1 h2
    have hi : i < n := by simpa using h2
    simp only [List.getElem_take, List.getElem_drop, List.getElem_map, List.getElem_range]
    rw [List.getD_eq_getElem?_getD, List.getElem?_eq_getElem (by omega), Option.getD_some]
theorem allOne_u8 (f : Nat → Int) (n : Nat) : allOne ((List.range n).map fun q => Value.int .u8 (f q)) = true := by
  generalize List.range n = l
  induction l with
  | nil => rfl
  | cons x l ih => simpa [allOne, Value.oneCell'] using ih
/-- A list with others put in from a place on. -/
def hset (H : List Value) (c : Nat) (news : List Value) : List Value := H.take c ++ news ++ H.drop (c + news.length)
theorem hset_len {H news : List Value} {c : Nat} (h : c + news.length ≤ H.length) : (hset H c news).length = H.length := by
  unfold hset; simp; omega
/-- What is held: of H, that has N places, the first c are f's. -/
structure HN (N : Nat) (H : List Value) (f : Nat → Int) (c : Nat) : Prop where
  len : H.length = N
  pre : H.take c = (List.range c).map fun q => Value.int .u8 (f q)
theorem HN.copy {N : Nat} {H : List Value} {f : Nat → Int} {c n : Nat} (h : HN N H f c) (hc : c + n ≤ N) : HN N (hset H c ((List.range n).map fun q => Value.int .u8 (f (c + q)))) f (c + n) := by
  refine ⟨by rw [hset_len (by simp [h.len]; omega)]; exact h.len, ?_⟩
  unfold hset
  rw [h.pre, List.take_append_of_le_length (by simp), List.take_of_length_le (by simp), List.range_add, List.map_append, List.map_map]
  rfl
theorem HN.set0 {N : Nat} {H : List Value} {f : Nat → Int} {n : Nat} (h : H.length = N) (hn : n ≤ N) : HN N (hset H 0 ((List.range n).map fun q => Value.int .u8 (f q))) f n := by
  have h0 : HN N H f 0 := ⟨h, by simp⟩
  have := h0.copy (n := n) (by omega)
  simpa using this
theorem HN.all {N : Nat} {H : List Value} {f : Nat → Int} (h : HN N H f N) : H = (List.range N).map fun q => Value.int .u8 (f q) := by
  rw [← h.pre, List.take_of_length_le (by rw [h.len]; exact Nat.le_refl _)]
theorem SlE.slB' {w : World} {b : Option Addr} {xs : List Int} {len : Nat} (h : SlE (Value.int .u8) w b xs) (hl : xs.length = len) : SlB w b len xs :=
  ⟨hl, h.h.imp (fun e => by rw [← hl, e]; rfl) id⟩
theorem SlB.slE {w : World} {b : Option Addr} {len : Nat} {xs : List Int} (h : SlB w b len xs) : SlE (Value.int .u8) w b xs :=
  ⟨h.2.imp (fun e => List.eq_nil_of_length_eq_zero (by rw [h.1, e])) id⟩
theorem SlE.chn {α : Type} {enc : α → Value} {X : List Nat} {w w' : World} {b : Option Addr} {xs : List α} (h : SlE enc w b xs) (hC : Ch X w w') (hx : ∀ g o, b = some ⟨g, o, none⟩ → 0 < xs.length → g ∉ X) : SlE enc w' b xs := by
  rcases h.h with h | ⟨g, o, e, hO⟩
  · exact ⟨.inl h⟩
  · by_cases h0 : xs = []
    · exact ⟨.inl h0⟩
    · exact ⟨.inr ⟨g, o, e, hO.ch hC (hx g o e (List.length_pos_iff.2 h0))⟩⟩
theorem SlE.lt {α : Type} {enc : α → Value} {w : World} {b : Option Addr} {xs : List α} (h : SlE enc w b xs) : ∀ g o, b = some ⟨g, o, none⟩ → 0 < xs.length → g < w.heap.size := by
  intro g o e hl
  obtain ⟨g2, o2, e2, hO⟩ := h.get hl
  rw [e2] at e
  cases e
  cases xs with
  | nil => simp at hl
  | cons x xs => exact World.block_lt_of_cell? w _ (hO.cell 0 _ rfl)
end Go.Proofs.Ytlcckgimagllaaa
