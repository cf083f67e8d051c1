/- What a value reads as, to any depth: 'Reads'. No program in sight. -/
import Derived.Test.YtlcckgimagllaaaRows
import Derived.WalkKit
import Derived.ProofKit
import Derived.OpenShut
import Derived.Below
import Derived.Carry
import Derived.Lib.Hide
namespace Go.Proofs.Ytlcckgimagllaaa
open Go.ChangeShapes Go.WideShapes Go.ChangeAt Go.RowKit

/-- These cells read, at this type, to any depth. -/
def Reads (P : Program) (w : World) (t : TypeId) (cs : List Value) : Prop :=
  ∃ (H : Type) (enc : TypeId × Value → H) (fuel : Nat) (x : DataW H × List MemPlace), DataW.trod enc P w 0 (fun _ => true) true fuel t cs = some x

theorem reads_of_trod {H : Type} {enc : TypeId × Value → H} {P : Program} {w : World} {t : TypeId} {v : Value} {d : DataW H} {ps : List MemPlace}
    (h : DataW.Trod enc P w 0 (fun _ => true) true t v d ps) : Reads P w t v.cells.toList := by
  obtain ⟨fuel, hf⟩ := h
  exact ⟨H, enc, fuel, _, hf⟩

section
variable {P : Program} {w : World} {t e : TypeId} {cs : List Value}

theorem Reads.int {k : IntKind} (ht : P.underlying t = some (.int k)) (h : Reads P w t cs) : ∃ n, cs = [.int k n] ∧ (Lit.int k n).wf = true := by
  obtain ⟨H, enc, fuel, x, hf⟩ := h
  cases fuel with
  | zero => simp [DataW.trod] at hf
  | succ m =>
    unfold DataW.trod at hf
    rw [ht] at hf
    split at hf <;> simp_all

theorem Reads.bool (ht : P.underlying t = some .bool) (h : Reads P w t cs) : ∃ b, cs = [.bool b] := by
  obtain ⟨H, enc, fuel, x, hf⟩ := h
  cases fuel with
  | zero => simp [DataW.trod] at hf
  | succ m =>
    unfold DataW.trod at hf
    rw [ht] at hf
    split at hf <;> simp_all

theorem Reads.string (ht : P.underlying t = some .string) (h : Reads P w t cs) : ∃ s, cs = [.string s] ∧ s.size ≤ maxLen := by
  obtain ⟨H, enc, fuel, x, hf⟩ := h
  cases fuel with
  | zero => simp [DataW.trod] at hf
  | succ m =>
    unfold DataW.trod at hf
    rw [ht] at hf
    split at hf <;> simp_all

theorem Reads.array {n : Nat} (ht : P.underlying t = some (.array n e)) (h : Reads P w t cs) :
    cs.length = P.cellsOf t ∧ ∀ i, i < n → Reads P w e ((cs.drop (i * P.cellsOf e)).take (P.cellsOf e)) := by
  obtain ⟨H, enc, fuel, x, hf⟩ := h
  obtain ⟨xs, m, rfl, rfl, hl, hn, he⟩ := DataW.trod_array ht hf
  refine ⟨hl, fun i hi => ?_⟩
  have h1 := he i hi
  rw [List.getElem?_eq_getElem (by omega)] at h1
  exact ⟨H, enc, m, _, h1⟩

theorem mapM_mem {α β : Type} {f : α → Option β} : ∀ {l : List α} {r : List β}, l.mapM f = some r → ∀ a ∈ l, ∃ b, f a = some b
  | [], _, _, a, ha => by simp at ha
  | b :: l, r, h, a, ha => by
    rw [List.mapM_cons] at h
    simp only [Option.bind_eq_bind, Option.bind_eq_some_iff] at h
    obtain ⟨y, hy, ys, hys, _⟩ := h
    rcases List.mem_cons.1 ha with rfl | ha
    · exact ⟨y, hy⟩
    · exact mapM_mem hys a ha

theorem Reads.struct {fs : Array Field} (ht : P.underlying t = some (.struct fs)) (h : Reads P w t cs) :
    cs.length = P.cellsOf t ∧ ∀ f ∈ fs.toList, Reads P w f.type ((cs.drop f.offset).take (P.cellsOf f.type)) := by
  obtain ⟨H, enc, fuel, x, hf⟩ := h
  cases fuel with
  | zero => simp [DataW.trod] at hf
  | succ m =>
    unfold DataW.trod at hf
    rw [ht] at hf
    simp only at hf
    split at hf
    · rename_i hl
      refine ⟨hl, fun f hfm => ?_⟩
      rw [Option.map_eq_some_iff] at hf
      obtain ⟨xs, hxs, _⟩ := hf
      obtain ⟨y, hy⟩ := mapM_mem hxs f hfm
      exact ⟨H, enc, m, _, hy⟩
    · simp at hf

theorem Reads.slice (ht : P.underlying t = some (.slice e)) (h : Reads P w t cs) :
    cs = [.slice none 0 0] ∨ ∃ a len cap, cs = [.slice (some a) len cap] ∧ len ≤ cap ∧ cap ≤ maxLen ∧
      ∀ i, i < cap → ∃ c, w.cells? 0 (a.add (i * P.cellsOf e)) (P.cellsOf e) = some c ∧ Reads P w e c := by
  obtain ⟨H, enc, fuel, x, hf⟩ := h
  cases fuel with
  | zero => simp [DataW.trod] at hf
  | succ m =>
    unfold DataW.trod at hf
    rw [ht] at hf
    split at hf
    all_goals first | (exfalso; simp_all; done) | skip
    · exact .inl rfl
    · rename_i e' a len cap he
      obtain rfl : e = e' := by simpa using he
      dsimp only at hf
      split at hf
      · rename_i hc
        obtain ⟨_, hlen, hcap⟩ := hc
        refine .inr ⟨a, len, cap, rfl, hlen, hcap, fun i hi => ?_⟩
        rw [Option.bind_eq_some_iff] at hf
        obtain ⟨elems, h1, h2⟩ := hf
        rw [if_pos rfl, Option.map_eq_some_iff] at h2
        obtain ⟨rest, h3, _⟩ := h2
        by_cases hil : i < len
        · obtain ⟨y, hy⟩ := mapM_mem h1 i (by simpa using hil)
          rw [Option.bind_eq_some_iff] at hy
          obtain ⟨c, hc1, hc2⟩ := hy
          exact ⟨c, hc1, H, enc, m, _, hc2⟩
        · obtain ⟨y, hy⟩ := mapM_mem h3 (i - len) (by simp; omega)
          rw [show len + (i - len) = i by omega, Option.bind_eq_some_iff] at hy
          obtain ⟨c, hc1, hc2⟩ := hy
          exact ⟨c, hc1, H, enc, m, _, hc2⟩
      · simp at hf
end

/-- An array of numbers of one kind, as a value. -/
theorem Reads.ints {P : Program} {w : World} {t e : TypeId} {n : Nat} {k : IntKind} {cs : List Value} (ht : P.underlying t = some (.array n e)) (he : P.underlying e = some (.int k)) (hce : P.cellsOf e = 1) (hct : P.cellsOf t = n)
    (h : Reads P w t cs) : ∃ xs : List Int, xs.length = n ∧ cs = xs.map (Value.int k) ∧ ∀ x ∈ xs, (Lit.int k x).wf = true := by
  obtain ⟨hl, hr⟩ := h.array ht
  rw [hct] at hl
  subst hl
  clear ht hct h
  induction cs with
  | nil => exact ⟨[], rfl, rfl, by simp⟩
  | cons c cs ih =>
    have h0 := hr 0 (by simp)
    rw [hce] at h0
    obtain ⟨m, hm, wm⟩ := h0.int he
    simp at hm
    subst hm
    obtain ⟨xs, h1, h2, h3⟩ := ih (fun i hi => by have := hr (i + 1) (by simpa using hi); rw [hce] at this ⊢; simpa using this)
    exact ⟨m :: xs, by simp [h1], by simp [h2], fun x hx => (List.mem_cons.1 hx).elim (fun e => e ▸ wm) (h3 x)⟩

/-- The value of an array or of a struct is its cells. -/
theorem okWide_row {P : Program} {w : World} {r : Reach} {base : Nat} {t : TypeId} {v : Value} (ht : (∃ n e, P.underlying t = some (.array n e)) ∨ ∃ fs, P.underlying t = some (.struct fs)) (h : Value.okWide P w r base t v) : ∃ cs, v = .agg cs := by
  unfold Value.okWide at h
  rcases ht with ⟨n, e, ht⟩ | ⟨fs, ht⟩ <;> rw [ht] at h <;> obtain ⟨cs, rfl, _⟩ := h <;> exact ⟨cs, rfl⟩
end Go.Proofs.Ytlcckgimagllaaa
