/- Calls that turn some of our chunks: those are picked out of the list, the others stay. -/
import Derived.Test.YtlcckgimagllaaaSs12
namespace Go.Proofs.Ytlcckgimagllaaa
open Go Go.RowKit
set_option linter.unusedVariables false
/-- L is A and L', in whatever order. -/
inductive Sp : List Chunk → List Chunk → List Chunk → Prop
  | nil {L : List Chunk} : Sp [] L L
  | cons {c : Chunk} {A L L1 L' : List Chunk} (h : Rm c L L1) (hs : Sp A L1 L') : Sp (c :: A) L L'
theorem Rm.perm {c : Chunk} {L L' : List Chunk} (h : Rm c L L') : L.Perm (c :: L') := by
  obtain ⟨A, B, rfl, rfl⟩ := h.split
  exact List.perm_middle
theorem Sp.perm {A L L' : List Chunk} (h : Sp A L L') : L.Perm (A ++ L') := by
  induction h with
  | nil => exact List.Perm.refl _
  | cons h _ ih => exact h.perm.trans (ih.cons _)
theorem Sp.sub {A L L' : List Chunk} (h : Sp A L L') : L'.Sublist L := by
  induction h with
  | nil => exact List.Sublist.refl _
  | cons h _ ih => exact ih.trans h.sub
theorem Sp.has {A L L' : List Chunk} {w : World} (h : Sp A L L') (hL : Has L w) : Has A w ∧ Has L' w ∧ ∀ g ∈ feet A, g ∉ feet L' := by
  have h2 := hL.perm h.perm
  refine ⟨h2.sub (List.sublist_append_left _ _), h2.sub (List.sublist_append_right _ _), fun g hg hm => ?_⟩
  have := h2.apart
  rw [feet_append] at this
  exact (List.nodup_append.1 this).2.2 g hg g hm rfl
section
variable {P : Program} {n m d : Nat} {T : List (Nat × Value)} {X : List Nat} {w0 : World} {L L' A : List Chunk} {K : Act → World → Prop} {Q : Exit → Act → World → Prop}
  {ty : TypeId} {pos : String} {af : Array Edge} {gu : Option (Nat × Bool)}
theorem e_callX {α : Type} {V : α → Value} {N : α → List Chunk} {Φ : α → Prop} {fop : Operand} {xs : List Operand} {ats : Array TypeId} {f : FuncId} {vs : List Value}
    (A : List Chunk) (L2 : α → List Chunk) (hf : ev T fop = some (.func (.func f) #[] #[])) (hargs : evs T xs = some vs) (hb : bodied P f = true) (hd : Nat.blt d n = true)
    (hsp : Sp A L L')
    (hcon : ∀ w, Ch X w0 w → w.heap.size = m → Has A w → Has L' w → (∀ g ∈ feet A, g ∉ feet L') → CA P f vs w (Ret V (feet A) N Φ w))
    (hY : ∀ g ∈ feet A, g ∈ X ∨ w0.heap.size ≤ g) (h2 : ∀ z, N z ++ L' = L2 z)
    (h : ∀ z m', Φ z → (∀ g ∈ feet (N z), g ∈ X ∨ w0.heap.size ≤ g) → m ≤ m' → ∀ a w, SS n ((d, V z) :: T) X w0 m' (L2 z) a w → K a w) :
    ∀ a w, SS n T X w0 m L a w → OW P ⟨some d, .call { callee := .value fop, args := xs.toArray, argTypes := ats }, ty, pos, af, gu⟩ K Q a w := by
  intro a w hs
  have hm0 : w0.heap.size ≤ m := by have := hs.ch.size; have := hs.size; omega
  obtain ⟨_, _, hap⟩ := hsp.has hs.has
  exact e_call (Y := feet A) (L' := L') hf hargs hb hd (fun w hC hm hL => (let ⟨h1, h2, h3⟩ := hsp.has hL; hcon w hC hm h1 h2 h3)) hY hsp.sub hap (fun z m' hz hnew hm' => by rw [h2 z]; exact h z m' hz (fun g hg => (hnew g hg).elim (hY g) (fun h9 => .inr (by omega))) hm') a w hs
theorem e_callX0 {α : Type} {V : α → Value} {N : α → List Chunk} {Φ : α → Prop} {fop : Operand} {xs : List Operand} {ats : Array TypeId} {f : FuncId} {vs : List Value}
    (A : List Chunk) (L2 : α → List Chunk) (hf : ev T fop = some (.func (.func f) #[] #[])) (hargs : evs T xs = some vs) (hb : bodied P f = true)
    (hsp : Sp A L L')
    (hcon : ∀ w, Ch X w0 w → w.heap.size = m → Has A w → Has L' w → (∀ g ∈ feet A, g ∉ feet L') → CA P f vs w (Ret V (feet A) N Φ w))
    (hY : ∀ g ∈ feet A, g ∈ X ∨ w0.heap.size ≤ g) (h2 : ∀ z, N z ++ L' = L2 z)
    (h : ∀ z m', Φ z → (∀ g ∈ feet (N z), g ∈ X ∨ w0.heap.size ≤ g) → m ≤ m' → ∀ a w, SS n T X w0 m' (L2 z) a w → K a w) :
    ∀ a w, SS n T X w0 m L a w → OW P ⟨none, .call { callee := .value fop, args := xs.toArray, argTypes := ats }, ty, pos, af, gu⟩ K Q a w := by
  intro a w hs
  have hm0 : w0.heap.size ≤ m := by have := hs.ch.size; have := hs.size; omega
  obtain ⟨_, _, hap⟩ := hsp.has hs.has
  exact e_call0 (Y := feet A) (L' := L') hf hargs hb (fun w hC hm hL => (let ⟨h1, h2, h3⟩ := hsp.has hL; hcon w hC hm h1 h2 h3)) hY hsp.sub hap (fun z m' hz hnew hm' => by rw [h2 z]; exact h z m' hz (fun g hg => (hnew g hg).elim (hY g) (fun h9 => .inr (by omega))) hm') a w hs
end
end Go.Proofs.Ytlcckgimagllaaa
