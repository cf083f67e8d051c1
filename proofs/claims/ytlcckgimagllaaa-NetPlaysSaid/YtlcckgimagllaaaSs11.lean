/- The walk by known slots and chunks: branches that meet again. No program in sight. -/
import Derived.Test.YtlcckgimagllaaaSs10
namespace Go.Proofs.Ytlcckgimagllaaa
open Go Go.RowKit
set_option linter.unusedVariables false
section
variable {P : Program} {n m d : Nat} {T : List (Nat × Value)} {X : List Nat} {w0 : World} {L L' : List Chunk} {x y : Code} {Q : Ct}
structure JoinK {γ : Type} (n : Nat) (X : List Nat) (w0 : World) (T' : γ → List (Nat × Value)) (m' : γ → Nat) (L' : γ → List Chunk) (Φ : γ → Prop) (a : Act) (w : World) : Prop where
  h : ∃ z, Φ z ∧ SS n (T' z) X w0 (m' z) (L' z) a w
theorem c_join {γ : Type} (T' : γ → List (Nat × Value)) (m' : γ → Nat) (L' : γ → List Chunk) (Φ : γ → Prop)
    (first : ∀ a w, SS n T X w0 m L a w → CW P x (.thn (JoinK n X w0 T' m' L' Φ) Q) a w)
    (rest : ∀ z, Φ z → ∀ a w, SS n (T' z) X w0 (m' z) (L' z) a w → CW P y Q a w) :
    ∀ a w, SS n T X w0 m L a w → CW P (Code.seq x y) Q a w :=
  fun a w hs => ⟨wpIn_seq (wpIn_mono (first a w hs).h fun e a w hq => by
    cases e with
    | normal => obtain ⟨z, hz, hs'⟩ := JoinK.h hq; exact (rest z hz a w hs').h
    | _ => exact hq)⟩
theorem c_joined {γ : Type} {T' : γ → List (Nat × Value)} {m' : γ → Nat} {L' : γ → List Chunk} {Φ : γ → Prop} (z : γ) (hz : Φ z) (hT : subT T (T' z)) (hm : m' z = m) (hL : (L' z).Sublist L) :
    ∀ a w, SS n T X w0 m L a w → JoinK n X w0 T' m' L' Φ a w :=
  fun a w hs => ⟨z, hz, hs.agr.sub hT, hs.ch, hm ▸ hs.size, hs.has.sub hL⟩
end
end Go.Proofs.Ytlcckgimagllaaa
