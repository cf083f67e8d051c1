/- Lists of whatever elements that are handed in. No program in sight. -/
import Derived.Test.YtlcckgimagllaaaSs10
import Derived.Test.YtlcckgimagllaaaRead
import Derived.Test.YtlcckgimagllaaaMem
namespace Go.Proofs.Ytlcckgimagllaaa
open Go Go.RowKit
set_option linter.unusedVariables false
/-- A list that is handed in: the cells of its elements, one behind the other. -/
structure SlF {α : Type} (enc : α → List Value) (w : World) (b : Option Addr) (xs : List α) : Prop where
  h : xs = [] ∨ ∃ g o, b = some ⟨g, o, none⟩ ∧ Old w g o (xs.flatMap enc)
theorem SlF.ch0 {α : Type} {enc : α → List Value} {w w' : World} {b : Option Addr} {xs : List α} (h : SlF enc w b xs) (hC : Ch [] w w') : SlF enc w' b xs :=
  ⟨h.h.imp id fun ⟨g, o, e, hO⟩ => ⟨g, o, e, hO.ch hC (by simp)⟩⟩
theorem SlF.get {α : Type} {enc : α → List Value} {w : World} {b : Option Addr} {xs : List α} (h : SlF enc w b xs) {i : Nat} (hi : i < xs.length) : ∃ g o, b = some ⟨g, o, none⟩ ∧ Old w g o (xs.flatMap enc) := by
  rcases h.h with h | h
  · subst h; simp at hi
  · exact h
theorem flatMap_one {α : Type} (f : α → Value) (xs : List α) : xs.flatMap (fun x => [f x]) = xs.map f := by
  induction xs with
  | nil => rfl
  | cons x xs ih => simp [List.flatMap_cons, ih]
theorem SlF.slE {α : Type} {f : α → Value} {w : World} {b : Option Addr} {xs : List α} (h : SlF (fun x => [f x]) w b xs) : SlE f w b xs :=
  ⟨h.h.imp id fun ⟨g, o, e, hO⟩ => ⟨g, o, e, by rw [flatMap_one] at hO; exact hO⟩⟩
/-- The cells of the i-th. -/
theorem flat_at {α : Type} {enc : α → List Value} {sz : Nat} (hsz : ∀ x, (enc x).length = sz) : ∀ {xs : List α} {i : Nat} {x : α}, xs[i]? = some x → ((xs.flatMap enc).drop (i * sz)).take sz = enc x
  | y :: xs, 0, x, h => by
    simp only [List.getElem?_cons_zero, Option.some.injEq] at h
    subst h
    rw [Nat.zero_mul, List.drop_zero, List.flatMap_cons, ← hsz y, List.take_left]
  | y :: xs, i + 1, x, h => by
    rw [List.getElem?_cons_succ] at h
    have := flat_at (enc := enc) hsz h
    rw [List.flatMap_cons, show (i + 1) * sz = (enc y).length + i * sz by rw [hsz, Nat.succ_mul, Nat.add_comm], List.drop_append, List.drop_of_length_le (Nat.le_add_right _ _), List.nil_append, Nat.add_sub_cancel_left]
    exact this
  | [], i, x, h => by simp at h
theorem flat_nth {α : Type} {enc : α → List Value} {sz : Nat} (hsz : ∀ x, (enc x).length = sz) {xs : List α} {i j : Nat} {x : α} (h : xs[i]? = some x) (hj : j < sz) : nth (xs.flatMap enc) (i * sz + j) = nth (enc x) j := by
  have := flat_at hsz h
  rw [nth_eq, nth_eq, ← this, List.getElem?_take, if_pos hj, List.getElem?_drop]
theorem flat_len {α : Type} {enc : α → List Value} {sz : Nat} (hsz : ∀ x, (enc x).length = sz) : ∀ (xs : List α), (xs.flatMap enc).length = xs.length * sz
  | [] => by simp
  | x :: xs => by rw [List.flatMap_cons, List.length_append, hsz, flat_len hsz xs, List.length_cons, Nat.succ_mul, Nat.add_comm]
theorem Old.at {w : World} {g o : Nat} {vs us : List Value} (h : Old w g o vs) (k n : Nat) (e : (vs.drop k).take n = us) : Old w g (o + k) us := ⟨fun j v hj => by
  rw [← e, nth_eq, List.getElem?_take] at hj
  split at hj
  · rw [List.getElem?_drop] at hj
    have := h.cell (k + j) v (by rw [nth_eq]; exact hj)
    rwa [← Nat.add_assoc] at this
  · cases hj⟩
/-- The cells of the i-th, where they lie. -/
theorem SlF.el {α : Type} {enc : α → List Value} {sz : Nat} (hsz : ∀ x, (enc x).length = sz) {w : World} {b : Option Addr} {xs : List α} (h : SlF enc w b xs) {i : Nat} {x : α} (hi : xs[i]? = some x) : ∃ g o, b = some ⟨g, o, none⟩ ∧ Old w g (o + i * sz) (enc x) := by
  obtain ⟨g, o, e, hO⟩ := h.get (List.getElem?_eq_some_iff.1 hi).1
  exact ⟨g, o, e, hO.at _ _ (flat_at hsz hi)⟩
theorem exists_list {α : Type} (p : Nat → α → Prop) : ∀ (n : Nat), (∀ i, i < n → ∃ x, p i x) → ∃ xs : List α, xs.length = n ∧ ∀ i x, xs[i]? = some x → p i x
  | 0, _ => ⟨[], rfl, by simp⟩
  | n + 1, h => by
    obtain ⟨xs, h1, h2⟩ := exists_list p n (fun i hi => h i (by omega))
    obtain ⟨x, hx⟩ := h n (by omega)
    refine ⟨xs ++ [x], by simp [h1], fun i y hy => ?_⟩
    by_cases hi : i < n
    · rw [List.getElem?_append_left (by omega)] at hy; exact h2 i y hy
    · rw [List.getElem?_append_right (by omega)] at hy
      have hi2 : i - xs.length = 0 := by
        rcases Nat.eq_zero_or_pos (i - xs.length) with h | h
        · exact h
        · rw [List.getElem?_eq_none (by simp; omega)] at hy; cases hy
      rw [hi2] at hy
      simp at hy
      obtain rfl : i = n := by omega
      exact hy ▸ hx
theorem mapM_gets {α β : Type} {f : α → Option β} : ∀ {l : List α} {r : List β}, l.mapM f = some r → r.length = l.length ∧ ∀ (i : Nat) (y : β), r[i]? = some y → ∃ x : α, l[i]? = some x ∧ f x = some y
  | [], r, h => by
    simp at h; subst h; simp
  | b :: l, r, h => by
    rw [List.mapM_cons] at h
    simp only [Option.bind_eq_bind, Option.bind_eq_some_iff] at h
    obtain ⟨y, hy, ys, hys, h9⟩ := h
    simp at h9
    subst h9
    obtain ⟨h1, h2⟩ := mapM_gets hys
    refine ⟨by simp [h1], fun i z hz => ?_⟩
    cases i with
    | zero => simp at hz; subst hz; exact ⟨b, rfl, hy⟩
    | succ i => simp at hz; obtain ⟨x, hx1, hx2⟩ := h2 i z hz; exact ⟨x, by simpa using hx1, hx2⟩
theorem addr_add_add (ad : Addr) (a b : Nat) : (ad.add a).add b = ad.add (a + b) := by
  rcases Nat.eq_zero_or_pos a with rfl | h1 <;> rcases Nat.eq_zero_or_pos b with rfl | h2
  · simp [Addr.add]
  · simp [Addr.add]
  · simp [Addr.add]
  · have e1 : a ≠ 0 := by omega
    have e2 : b ≠ 0 := by omega
    have e3 : a + b ≠ 0 := by omega
    simp [Addr.add, e1, e2, Nat.add_assoc]
/-- A list that came in, by what its elements read as. -/
theorem Reads.rows {P : Program} {w : World} {t e : TypeId} {sz : Nat} (ht : P.underlying t = some (.slice e)) (hce : P.cellsOf e = sz) (hsz0 : 0 < sz) {α : Type} (enc : α → List Value) (good : α → Prop) (hel : ∀ c, Reads P w e c → ∃ x, c = enc x ∧ good x)
    {a : Option Addr} {len cap : Nat} (h : Reads P w t [.slice a len cap]) : ∃ xs : List α, xs.length = len ∧ len ≤ cap ∧ cap ≤ maxLen ∧ SlF enc w a xs ∧ ∀ x ∈ xs, good x := by
  rcases h.slice ht with h | ⟨ad, l, c, hcs, hl, hm, hcell⟩
  · simp at h
    obtain ⟨rfl, rfl, rfl⟩ := h
    exact ⟨[], rfl, Nat.le_refl _, Nat.zero_le _, ⟨.inl rfl⟩, by simp⟩
  · simp at hcs
    obtain ⟨rfl, rfl, rfl⟩ := hcs
    rw [hce] at hcell
    obtain ⟨xs, h1, h2⟩ := exists_list (fun i (x : α) => w.cells? 0 (ad.add (i * sz)) sz = some (enc x) ∧ good x) len (fun i hi => by
      obtain ⟨c, hc, hr⟩ := hcell i (by omega)
      obtain ⟨x, rfl, hg⟩ := hel c hr
      exact ⟨x, hc, hg⟩)
    refine ⟨xs, h1, hl, hm, ⟨?_⟩, fun x hx => ?_⟩
    · by_cases h0 : xs = []
      · exact .inl h0
      · refine .inr ?_
        have key : ∀ i x, xs[i]? = some x → (enc x).length = sz ∧ ∀ j v, (enc x)[j]? = some v → w.cell? (ad.add (i * sz + j)) = some v := by
          intro i x hx
          have := (h2 i x hx).1
          unfold World.cells? at this
          rw [if_pos (Nat.zero_le _)] at this
          obtain ⟨k1, k2⟩ := mapM_gets this
          refine ⟨by simpa using k1, fun j v hj => ?_⟩
          obtain ⟨q, hq1, hq2⟩ := k2 j v hj
          have hj2 : j < sz := by
            have := (List.getElem?_eq_some_iff.1 hj).1
            simp at k1; omega
          rw [List.getElem?_range hj2] at hq1
          simp at hq1
          subst hq1
          rwa [addr_add_add] at hq2
        obtain ⟨x0, hx0⟩ : ∃ x0, xs[0]? = some x0 := by
          cases xs with
          | nil => exact absurd rfl h0
          | cons x _ => exact ⟨x, rfl⟩
        have k0 := key 0 x0 hx0
        obtain ⟨v0, hv0⟩ : ∃ v, (enc x0)[0]? = some v := ⟨_, List.getElem?_eq_getElem (by omega)⟩
        have hc0 := k0.2 0 v0 hv0
        obtain ⟨b, off, spot⟩ := ad
        have hspot : spot = none := by simpa [Addr.add] using World.cell?_spot hc0
        subst hspot
        refine ⟨b, off, rfl, ⟨fun j v hj => ?_⟩⟩
        have hlen : ∀ (ys : List α), (∀ y ∈ ys, (enc y).length = sz) → (ys.flatMap enc).length = ys.length * sz := by
          intro ys hys
          induction ys with
          | nil => simp
          | cons y ys ih => rw [List.flatMap_cons, List.length_append, hys y (by simp), ih (fun z hz => hys z (by simp [hz])), List.length_cons, Nat.succ_mul, Nat.add_comm]
        have hall : ∀ y ∈ xs, (enc y).length = sz := fun y hy => by
          obtain ⟨i, hi, rfl⟩ := List.getElem_of_mem hy
          exact (key i _ (List.getElem?_eq_getElem hi)).1
        have hgen : ∀ (ys : List α), (∀ y ∈ ys, (enc y).length = sz) → ∀ j v, (ys.flatMap enc)[j]? = some v → ∃ x, ys[j / sz]? = some x ∧ (enc x)[j % sz]? = some v := by
          intro ys
          induction ys with
          | nil => intro _ j v h; simp at h
          | cons y ys ih =>
            intro hys j v h
            rw [List.flatMap_cons] at h
            by_cases hj : j < sz
            · rw [List.getElem?_append_left (by rw [hys y (by simp)]; exact hj)] at h
              exact ⟨y, by rw [Nat.div_eq_of_lt hj]; rfl, by rw [Nat.mod_eq_of_lt hj]; exact h⟩
            · rw [List.getElem?_append_right (by rw [hys y (by simp)]; omega), hys y (by simp)] at h
              obtain ⟨x, hx1, hx2⟩ := ih (fun z hz => hys z (by simp [hz])) _ _ h
              have hjs : j = (j - sz) + sz := by omega
              refine ⟨x, ?_, ?_⟩
              · rw [hjs, Nat.add_div_right _ hsz0]; simpa using hx1
              · rw [hjs, Nat.add_mod_right]; exact hx2
        rw [nth_eq] at hj
        obtain ⟨x, hx1, hx2⟩ := hgen xs hall j v hj
        have := (key _ x hx1).2 _ v hx2
        rw [Nat.mul_comm, Nat.div_add_mod] at this
        have hadd : (⟨b, off, none⟩ : Addr).add j = ⟨b, off + j, none⟩ := by simp [Addr.add]
        rwa [hadd] at this
    · obtain ⟨i, hi, rfl⟩ := List.getElem_of_mem hx
      exact (h2 i _ (List.getElem?_eq_getElem hi)).2
/-- A text that came in. -/
theorem Reads.bytes {P : Program} {w : World} {t e : TypeId} (ht : P.underlying t = some (.slice e)) (he : P.underlying e = some (.int .u8)) (hce : P.cellsOf e = 1) {cs : List Value} (h : Reads P w t cs) :
    ∃ a len cap xs, cs = [.slice a len cap] ∧ xs.length = len ∧ len ≤ cap ∧ cap ≤ maxLen ∧ SlE (Value.int .u8) w a xs ∧ ∀ x ∈ xs, 0 ≤ x ∧ x ≤ 255 := by
  have key : ∀ a len cap, cs = [.slice a len cap] → ∃ a len cap xs, cs = [.slice a len cap] ∧ xs.length = len ∧ len ≤ cap ∧ cap ≤ maxLen ∧ SlE (Value.int .u8) w a xs ∧ ∀ x ∈ xs, 0 ≤ x ∧ x ≤ 255 := by
    rintro a len cap rfl
    obtain ⟨xs, h1, h2, h3, h4, h5⟩ := h.rows ht hce (by omega) (fun x : Int => [Value.int .u8 x]) (fun x => 0 ≤ x ∧ x ≤ 255) (fun c hc => by
      obtain ⟨n, rfl, hw⟩ := hc.int he
      exact ⟨n, rfl, bounds_u8 hw⟩)
    exact ⟨a, len, cap, xs, rfl, h1, h2, h3, h4.slE, h5⟩
  rcases h.slice ht with h9 | ⟨ad, l, c, hcs, _⟩
  · exact key _ _ _ h9
  · exact key _ _ _ hcs
end Go.Proofs.Ytlcckgimagllaaa
