/- Texts that are handed in: byte slices by their numbers. No program in sight. -/
import Derived.Test.YtlcckgimagllaaaSs9
import Derived.Test.YtlcckgimagllaaaMem
namespace Go.Proofs.Ytlcckgimagllaaa
open Go Go.RowKit
set_option linter.unusedVariables false
/-- A text that is handed in. -/
def SlB (w : World) (a : Option Addr) (len : Nat) (zs : List Int) : Prop := zs.length = len ∧ (len = 0 ∨ ∃ g o, a = some ⟨g, o, none⟩ ∧ Old w g o (zs.map (Value.int .u8)))
theorem map_nth (zs : List Int) (i : Nat) (h : i < zs.length) : nth (zs.map (Value.int .u8)) i = some (.int .u8 (zs.getD i 0)) := by
  rw [nth_eq]; simp [List.getD, h]
theorem Old.rdN {X : List Nat} {w0 : World} {L : List Chunk} {g : Nat} (hx : g ∉ X) : ∀ {vs : List Value} {o : Nat}, Old w0 g o vs → RdN X w0 L ⟨g, o, none⟩ vs
  | [], _, _ => .nil
  | v :: vs, o, h => .cons (.old (h.cell 0 v rfl) hx) (Old.rdN hx ⟨fun j u hj => by have := h.cell (j + 1) u hj; rwa [show o + (j + 1) = o + 1 + j by omega] at this⟩)
theorem Old.take {w : World} {g o : Nat} {vs : List Value} (h : Old w g o vs) (k : Nat) : Old w g o (vs.take k) := ⟨fun j v hj => h.cell j v (by
  rw [nth_eq, List.getElem?_take] at hj
  split at hj
  · rw [nth_eq]; exact hj
  · cases hj)⟩
theorem SlB.vw {w0 : World} {L : List Chunk} {a : Option Addr} {len : Nat} {zs : List Int} (h : SlB w0 a len zs) : Vw [] w0 L a (zs.map (Value.int .u8)) := by
  obtain ⟨h1, h2⟩ := h
  rcases h2 with h2 | ⟨g, o, rfl, hO⟩
  · have : zs = [] := List.eq_nil_of_length_eq_zero (by omega)
    subst this
    cases a with
    | none => exact .inl ⟨rfl, rfl⟩
    | some p => exact .inr ⟨p, rfl, .nil⟩
  · exact .inr ⟨_, rfl, hO.rdN (by simp)⟩
theorem SlB.ch {w w' : World} {a : Option Addr} {len : Nat} {zs : List Int} (h : SlB w a len zs) (hC : Ch [] w w') : SlB w' a len zs := by
  obtain ⟨h1, h2⟩ := h
  refine ⟨h1, h2.imp id ?_⟩
  rintro ⟨g, o, e, hO⟩
  exact ⟨g, o, e, hO.ch hC (by simp)⟩
theorem SlB.take {w : World} {a : Option Addr} {len : Nat} {zs : List Int} (h : SlB w a len zs) (k : Nat) (hk : k ≤ len) : SlB w a k (zs.take k) := by
  obtain ⟨h1, h2⟩ := h
  refine ⟨by simp; omega, ?_⟩
  rcases h2 with h2 | ⟨g, o, e, hO⟩
  · exact .inl (by omega)
  · exact .inr ⟨g, o, e, by rw [List.map_take]; exact hO.take k⟩
theorem BS.slB {w : World} {a : Option Addr} {len cap : Nat} {zs : List Int} (h : BS w a len cap zs) : SlB w a len zs := by
  refine ⟨h.length, ?_⟩
  by_cases h0 : len = 0
  · exact .inl h0
  · obtain ⟨b, off, rfl, _, hc⟩ := h.cells (by omega)
    refine .inr ⟨b, off, rfl, ⟨fun j v hj => ?_⟩⟩
    rw [nth_eq, List.getElem?_map, Option.map_eq_some_iff] at hj
    obtain ⟨x, hx, rfl⟩ := hj
    have hlt : j < zs.length := (List.getElem?_eq_some_iff.1 hx).1
    have := hc j (by have := h.length; omega)
    rwa [List.getD_eq_getElem?_getD, hx, Option.getD_some] at this
theorem SlB.of_own {t8 : TypeId} {L : List Chunk} {w : World} (hL : Has L w) {g cap k : Nat} {xs : List Value} {zs : List Int} (hm : Chunk.sl (some ⟨g, 0, none⟩) cap t8 1 xs ∈ L) (hx : xs = zs.map (Value.int .u8)) (hk : zs.length = k) : SlB w (some ⟨g, 0, none⟩) k zs :=
  ⟨hk, .inr ⟨g, 0, rfl, hL.old_sl (k := k) hm (by rw [hx, List.drop_zero, List.take_of_length_le (by rw [List.length_map]; omega)])⟩⟩
end Go.Proofs.Ytlcckgimagllaaa
