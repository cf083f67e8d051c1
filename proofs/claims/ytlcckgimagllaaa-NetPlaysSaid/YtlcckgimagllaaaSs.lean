/- WALKING BY KNOWN SLOTS AND KNOWN BLOCKS: the frame as a list of slots, the memory as a list of chunks; each operation a law that the unifier applies. No program in sight. -/
import Derived.Test.YtlcckgimagllaaaRows
import Derived.WalkKit
import Derived.Laws.BytesArg
import Derived.Laws.Tables
import Derived.Deep.MidRow
import Derived.Deep.AppendSrc
import Derived.Orders
import Derived.Below
namespace Go.Proofs.Ytlcckgimagllaaa
open Go Go.RowKit
set_option linter.unusedVariables false

/-! ### slots -/
/-- What is known of a slot. -/
def lk : List (Nat × Value) → Nat → Option Value
  | [], _ => none
  | (i, v) :: T, t => bif Nat.beq i t then some v else lk T t

/-- The slot that stands for the mark of a range over a function: no frame has so many. -/
def dslot : Nat := 1000000
/-- The marks: none, or one, told by that slot. -/
def dfs (T : List (Nat × Value)) : List Deferred :=
  match lk T dslot with
  | some (.int _ D) => [{ target := .collected D.toNat, args := #[] }]
  | _ => []
/-- A real slot. -/
def lks (T : List (Nat × Value)) (t : Nat) : Option Value := bif Nat.beq t dslot then none else lk T t
theorem lks_lk {T : List (Nat × Value)} {t : Nat} {v : Value} (h : lks T t = some v) : Nat.beq t dslot = false ∧ lk T t = some v := by
  unfold lks at h
  cases hb : Nat.beq t dslot with
  | true => simp [hb] at h
  | false => simp [hb] at h; exact ⟨rfl, h⟩
theorem lks_of {T : List (Nat × Value)} {t : Nat} {v : Value} (h1 : Nat.beq t dslot = false) (h : lk T t = some v) : lks T t = some v := by simp [lks, h1, h]
structure Agr (n : Nat) (T : List (Nat × Value)) (a : Act) : Prop where
  size : a.tmps.size = n
  small : n ≤ dslot
  defers : a.defers = dfs T
  slot : ∀ t v, lks T t = some v → a.tmps[t]? = some v

def ev (T : List (Nat × Value)) : Operand → Option Value
  | .tmp t => lks T t
  | .const v => some v
  | .global g => some (.pointer (some ⟨g, 0, none⟩))
  | .func f => some (.func (.func f) #[] #[])

def evs (T : List (Nat × Value)) : List Operand → Option (List Value)
  | [] => some []
  | x :: xs => match ev T x, evs T xs with
    | some v, some vs => some (v :: vs)
    | _, _ => none

theorem Agr.eval {n : Nat} {T : List (Nat × Value)} {a : Act} (h : Agr n T a) {x : Operand} {v : Value} (hx : ev T x = some v) : a.eval x = v := by
  cases x with
  | tmp t => simp only [ev] at hx; have := h.slot _ _ hx; simp [Act.eval, this]
  | const u => simpa [ev, Act.eval] using hx
  | global g => simpa [ev, Act.eval] using hx
  | func f => simpa [ev, Act.eval] using hx

theorem Agr.evals {n : Nat} {T : List (Nat × Value)} {a : Act} (h : Agr n T a) : ∀ {xs : List Operand} {vs : List Value}, evs T xs = some vs → xs.map a.eval = vs
  | [], vs, hx => by simp [evs] at hx; simp [hx]
  | x :: xs, vs, hx => by
    simp only [evs] at hx
    split at hx
    · rename_i v us h1 h2
      simp only [Option.some.injEq] at hx
      subst hx
      rw [List.map_cons, h.eval h1, h.evals h2]
    · simp at hx

theorem Agr.put {n : Nat} {T : List (Nat × Value)} {a : Act} (h : Agr n T a) {d : Nat} (v : Value) (hd : Nat.blt d n = true) : Agr n ((d, v) :: T) (a.put (some d) v) := by
  have hdn : d < a.tmps.size := by rw [h.size]; exact Nat.blt_eq ▸ hd
  have hne : Nat.beq d dslot = false := by
    have := h.small
    have := h.size
    rw [← Bool.not_eq_true]
    intro e
    have := Nat.eq_of_beq_eq_true e
    omega
  refine ⟨by simpa [Act.put] using h.size, h.small, by simpa only [dfs, lk, hne, cond_false, Act.put] using h.defers, fun t u ht => ?_⟩
  obtain ⟨htd, ht⟩ := lks_lk ht
  simp only [lk] at ht
  cases hb : Nat.beq d t with
  | true =>
    have e : d = t := Nat.eq_of_beq_eq_true hb
    subst e
    simp at ht
    subst ht
    simp [Act.put, hdn]
  | false =>
    have e : d ≠ t := Nat.ne_of_beq_eq_false hb
    simp [hb] at ht
    simp only [Act.put, Array.getElem?_setIfInBounds_ne e]
    exact h.slot _ _ (lks_of htd ht)

theorem Agr.put_none {n : Nat} {T : List (Nat × Value)} {a : Act} (h : Agr n T a) (v : Value) : Agr n T (a.put none v) := h

/-- T' says no more than T. -/
def subT (T : List (Nat × Value)) : List (Nat × Value) → Prop
  | [] => match lk T dslot with
    | none => True
    | some _ => False
  | (i, v) :: T' => lk T i = some v ∧ subT T T'
theorem subT_d {T : List (Nat × Value)} : ∀ {T' : List (Nat × Value)}, subT T T' → lk T dslot = none
  | [], h => by unfold subT at h; split at h <;> simp_all
  | (_, _) :: _, h => subT_d h.2

theorem subT_lk {T : List (Nat × Value)} : ∀ {T' : List (Nat × Value)}, subT T T' → ∀ t v, lk T' t = some v → lk T t = some v
  | [], _, t, v, h => by simp [lk] at h
  | (i, u) :: T', hs, t, v, h => by
    simp only [lk] at h
    cases hb : Nat.beq i t with
    | true =>
      have e : i = t := Nat.eq_of_beq_eq_true hb
      subst e
      simp at h
      rw [← h]; exact hs.1
    | false => simp [hb] at h; exact subT_lk hs.2 t v h

theorem Agr.sub {n : Nat} {T T' : List (Nat × Value)} {a : Act} (h : Agr n T a) (hs : subT T T') : Agr n T' a := by
  refine ⟨h.size, h.small, ?_, fun t v ht => h.slot t v (lks_of (lks_lk ht).1 (subT_lk hs t v (lks_lk ht).2))⟩
  have h1 := subT_d hs
  have h2 : lk T' dslot = none := by
    cases h3 : lk T' dslot with
    | none => rfl
    | some v => have := subT_lk hs _ _ h3; rw [h1] at this; cases this
  rw [h.defers]
  simp only [dfs, h1, h2]

/-! ### what has turned -/
/-- Of what was there, only blocks of X may have turned. -/
structure Ch (X : List Nat) (w w' : World) : Prop where
  os : w'.os = w.os
  tape : w'.tape = w.tape
  output : w'.output = w.output
  size : w.heap.size ≤ w'.heap.size
  block : ∀ k, k < w.heap.size → k ∉ X → w'.heap[k]? = w.heap[k]?

theorem Ch.refl (X : List Nat) (w : World) : Ch X w w := ⟨rfl, rfl, rfl, Nat.le_refl _, fun _ _ _ => rfl⟩
theorem Ch.below {w w' : World} (h : Ch [] w w') : Below w.heap.size w w' := ⟨h.os, h.tape, h.output, h.size, fun k hk => h.block k hk (by simp)⟩
theorem Ch.of_below {w w' : World} (h : Below w.heap.size w w') : Ch [] w w' := ⟨h.os, h.tape, h.output, h.size, fun k hk _ => h.block k hk⟩
theorem Ch.trans {X : List Nat} {a b c : World} (h : Ch X a b) (k : Ch X b c) : Ch X a c :=
  ⟨k.os.trans h.os, k.tape.trans h.tape, k.output.trans h.output, Nat.le_trans h.size k.size, fun i hi hx => (k.block i (Nat.lt_of_lt_of_le hi h.size) hx).trans (h.block i hi hx)⟩
theorem Ch.drew {X : List Nat} {w w' : World} (h : Ch X w w') (n : Nat) : Ch X w { w' with drawn := n } := ⟨h.os, h.tape, h.output, h.size, h.block⟩
/-- A callee's: what it turned is of X or new. -/
theorem Ch.call {X Y : List Nat} {a b c : World} (h : Ch X a b) (k : Ch Y b c) (hY : ∀ g ∈ Y, g ∈ X ∨ a.heap.size ≤ g) : Ch X a c :=
  ⟨k.os.trans h.os, k.tape.trans h.tape, k.output.trans h.output, Nat.le_trans h.size k.size, fun i hi hx => (k.block i (Nat.lt_of_lt_of_le hi h.size) (fun hm => (hY i hm).elim hx (fun hl => absurd hi (by omega)))).trans (h.block i hi hx)⟩
theorem Ch.mono {X Y : List Nat} {a b : World} (h : Ch X a b) (hX : ∀ g ∈ X, g ∈ Y) : Ch Y a b := ⟨h.os, h.tape, h.output, h.size, fun i hi hx => h.block i hi (fun hm => hx (hX i hm))⟩
theorem Ch.alloc {X : List Nat} {a b : World} (h : Ch X a b) (o : Obj) : Ch X a (b.alloc o) :=
  h.trans ⟨rfl, rfl, rfl, by simp, fun k hk _ => Below.heap_alloc _ _ _ hk⟩
theorem Ch.setCell {X : List Nat} {a b : World} (h : Ch X a b) {p : Addr} (hp : p.block ∈ X ∨ a.heap.size ≤ p.block) (u : Value) : Ch X a (b.setCell p u) :=
  h.call (Y := [p.block]) ⟨rfl, rfl, rfl, by simp [World.setCell], fun k _ hk => Below.heap_setCell _ _ _ _ (by simpa using hk)⟩ (by simpa using hp)
/-- A cell that was there and may not turn. -/
theorem Ch.cell {X : List Nat} {w w' : World} (h : Ch X w w') {p : Addr} {v : Value} (hc : w.cell? p = some v) (hx : p.block ∉ X) : w'.cell? p = some v := by
  have hlt := World.block_lt_of_cell? w _ hc
  rw [← hc]
  exact World.cell?_of_block (w := w) (h.block p.block hlt hx)

/-! ### chunks -/
inductive Chunk where
  | blk (g : Nat) (o : Obj)
  /-- a slice of the call's own: nil, or a block of which the first cells are xs; sz cells an element, room for cap elements -/
  | sl (b : Option Addr) (cap : Nat) (e : TypeId) (sz : Nat) (xs : List Value)

def Chunk.foot : Chunk → List Nat
  | .blk g _ => [g]
  | .sl none _ _ _ _ => []
  | .sl (some a) _ _ _ _ => [a.block]

def Chunk.ok (w : World) : Chunk → Prop
  | .blk g o => w.heap[g]? = some o
  | .sl b cap e sz xs => (b = none ∧ cap = 0 ∧ xs = []) ∨ ∃ g cs, b = some ⟨g, 0, none⟩ ∧ w.heap[g]? = some (.cells cs e (0, 0)) ∧ cs.size = cap * sz ∧ cs.toList.take xs.length = xs

def feet (L : List Chunk) : List Nat := L.flatMap Chunk.foot
structure Has (L : List Chunk) (w : World) : Prop where
  ok : ∀ c ∈ L, c.ok w
  apart : (feet L).Nodup

theorem ok_congr {w w' : World} {c : Chunk} (h : ∀ g ∈ c.foot, w'.heap[g]? = w.heap[g]?) (hc : c.ok w) : c.ok w' := by
  cases c with
  | blk g o => simp only [Chunk.ok] at *; rw [h g (by simp [Chunk.foot])]; exact hc
  | sl b cap e sz xs =>
    simp only [Chunk.ok] at *
    rcases hc with hc | ⟨g, cs, rfl, h1, h2⟩
    · exact .inl hc
    · exact .inr ⟨g, cs, rfl, by rw [h g (by simp [Chunk.foot])]; exact h1, h2⟩

theorem foot_lt {w : World} {c : Chunk} (hc : c.ok w) : ∀ g ∈ c.foot, g < w.heap.size := by
  have key : ∀ (g : Nat) (o : Obj), w.heap[g]? = some o → g < w.heap.size := fun g o h => by
    rcases Nat.lt_or_ge g w.heap.size with h' | h'
    · exact h'
    · simp [Array.getElem?_eq_none h'] at h
  intro g hg
  cases c with
  | blk g' o => simp [Chunk.foot] at hg; subst hg; exact key _ _ hc
  | sl b cap e sz xs =>
    rcases hc with ⟨rfl, _⟩ | ⟨g', cs, rfl, h1, _⟩
    · simp [Chunk.foot] at hg
    · simp [Chunk.foot] at hg; subst hg; exact key _ _ h1

theorem Has.lt {L : List Chunk} {w : World} (h : Has L w) : ∀ g ∈ feet L, g < w.heap.size := by
  intro g hg
  obtain ⟨c, hc, hg⟩ := List.mem_flatMap.1 hg
  exact foot_lt (h.ok c hc) g hg

theorem Has.congr {L : List Chunk} {w w' : World} (h : Has L w) (hk : ∀ g ∈ feet L, w'.heap[g]? = w.heap[g]?) : Has L w' :=
  ⟨fun c hc => ok_congr (fun g hg => hk g (List.mem_flatMap.2 ⟨c, hc, hg⟩)) (h.ok c hc), h.apart⟩

theorem Has.drew {L : List Chunk} {w : World} (h : Has L w) (n : Nat) : Has L { w with drawn := n } := h.congr (fun _ _ => rfl)

theorem Has.cons {L : List Chunk} {w : World} (h : Has L w) {c : Chunk} (hc : c.ok w) (hn : ∀ g ∈ c.foot, g ∉ feet L) (hd : c.foot.Nodup) : Has (c :: L) w := by
  refine ⟨fun c' hc' => ?_, ?_⟩
  · rcases List.mem_cons.1 hc' with rfl | h'
    · exact hc
    · exact h.ok _ h'
  · simp only [feet, List.flatMap_cons]
    exact List.nodup_append.2 ⟨hd, h.apart, fun a ha b hb e => hn a ha (e ▸ hb)⟩

theorem Has.nil (w : World) : Has [] w := ⟨by simp, by simp [feet]⟩
theorem foot_nodup (c : Chunk) : c.foot.Nodup := by
  cases c with
  | blk g o => simp [Chunk.foot]
  | sl b cap e sz xs => cases b <;> simp [Chunk.foot]

theorem feet_append (L L' : List Chunk) : feet (L ++ L') = feet L ++ feet L' := by simp [feet]

/-- Some of the chunks, in their order. -/
theorem Has.sub {L L' : List Chunk} {w : World} (h : Has L w) (hs : L'.Sublist L) : Has L' w :=
  ⟨fun c hc => h.ok c (hs.subset hc), h.apart.sublist (by
    clear h
    induction hs with
    | slnil => exact List.Sublist.refl _
    | cons c _ ih => exact ih.trans (List.sublist_append_right _ _)
    | cons_cons c _ ih => exact List.Sublist.append_left ih _)⟩

/-- A new block. -/
theorem Has.alloc {L : List Chunk} {w : World} (h : Has L w) (o : Obj) : Has (.blk w.heap.size o :: L) (w.alloc o) := by
  have h' : Has L (w.alloc o) := h.congr fun g hg => Below.heap_alloc _ _ _ (h.lt g hg)
  refine h'.cons (show (w.heap.push o)[w.heap.size]? = some o by simp) (fun g hg hm => ?_) (by simp [Chunk.foot])
  have := h.lt g hm
  simp [Chunk.foot] at hg
  omega
end Go.Proofs.Ytlcckgimagllaaa
