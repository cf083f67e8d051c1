/- StoreCrashes: what it needs, part 1. -/
import Derived.Test.YtgmghkakiocmjaaGreatDoorRows
import Derived.WalkKit
import Derived.Laws.BytesArg
import Derived.Laws.Tables
import Derived.Deep.MidRow
import Derived.Deep.AppendSrc
import Derived.Orders
import Derived.Below
import Derived.Sort.LoopGhostIn
import Derived.LoopNIn
import Derived.OrdersIn
import Derived.RegionIn
import Derived.RangeFuncLeaves
import Derived.RangeFuncCalls
import Derived.Laws.BitsAllLaws
import Derived.Laws.IdiomCopy
import Derived.Laws.CopyOwn
import Derived.Laws.MakeOwn
import Derived.Great.Walk
import Derived.OrdersHeld
import Derived.Laws.StructEq
import Derived.RangeFuncIn
import Derived.RangeFuncRecord
import Derived.RangeFuncSeq
import Derived.Maps.AppendAt
import Derived.Shelf.Spec.BitsCarry
import Derived.Carry
import Derived.Lib.SliceRun
import Derived.Laws.Pointers
import Derived.ProofKit
import Derived.OpenShut
import Derived.Lib.Hide
import Derived.OwnWalk
import Derived.Shelf.Bytes.SlSmallAll
import Derived.WalkSmall
import Derived.Laws.Rows
import Derived.Test.YtgmghkakiocmjaaGreatDoorProg
import Derived.Laws.IdiomStrings
import Derived.Laws.Cover3
import Derived.Lib.AppendZerosOnto
import Derived.Laws.Concat
import Derived.Shelf.SlIterI.Nil
import Derived.Shelf.SortM.Plain
import Derived.Shelf.SortM.SortNone
import Derived.Test.YtgmghkakiocmjaaGreatDoorChecked
import Derived.LaidEql
import Derived.Stop.Asserts
import Derived.RowKitTokens
import Derived.Stop.LaidTwo
import Derived.MakeChecks
import Derived.Test.YtgmghkakiocmjaaGreatDoorTie
import Derived.Test.YtgmghkakiocmjaaGreatDoorCards
import Derived.LaidMore
import Derived.Stop.Joined
import Derived.SevenTiedAt
import Derived.ShutString
import Derived.ChangeOld
namespace Go.Proofs.YtgmghkakiocmjaaGreatDoor
open Go Go.RowKit
set_option linter.unusedVariables false
/-! ### slots -/
def lk : List (Nat × Value) → Nat → Option Value
  | [], _ => none
  | (i, v) :: T, t => bif Nat.beq i t then some v else lk T t
def dslot : Nat := 1000000
def dfs (T : List (Nat × Value)) : List Deferred :=
  match lk T dslot with
  | some (.int _ D) => [{ target := .collected D.toNat, args := #[] }]
  | _ => []
def lks (T : List (Nat × Value)) (t : Nat) : Option Value := bif Nat.beq t dslot then none else lk T t
theorem lks_lk {T : List (Nat × Value)} {t : Nat} {v : Value} (h : lks T t = some v) : Nat.beq t dslot = false ∧ lk T t = some v := by
  unfold lks at h
  cases hb : Nat.beq t dslot with
  | true => simp [hb] at h
  | false => simp [hb] at h; exact ⟨rfl, h⟩
theorem lks_of {T : List (Nat × Value)} {t : Nat} {v : Value} (h1 : Nat.beq t dslot = false) (h : lk T t = some v) : lks T t = some v := by simp [lks, h1, h]
structure Agr (n : Nat) (T : List (Nat × Value)) (a : Act) : Prop where
  size : a.tmps.size = n
  small : n ≤ dslot
  defers : a.defers = dfs T
  slot : ∀ t v, lks T t = some v → a.tmps[t]? = some v
def ev (T : List (Nat × Value)) : Operand → Option Value
  | .tmp t => lks T t
  | .const v => some v
  | .global g => some (.pointer (some ⟨g, 0, none⟩))
  | .func f => some (.func (.func f) #[] #[])
def evs (T : List (Nat × Value)) : List Operand → Option (List Value)
  | [] => some []
  | x :: xs => match ev T x, evs T xs with
    | some v, some vs => some (v :: vs)
    | _, _ => none
theorem Agr.eval {n : Nat} {T : List (Nat × Value)} {a : Act} (h : Agr n T a) {x : Operand} {v : Value} (hx : ev T x = some v) : a.eval x = v := by
  cases x with
  | tmp t => simp only [ev] at hx; have := h.slot _ _ hx; simp [Act.eval, this]
  | const u => simpa [ev, Act.eval] using hx
  | global g => simpa [ev, Act.eval] using hx
  | func f => simpa [ev, Act.eval] using hx
theorem Agr.evals {n : Nat} {T : List (Nat × Value)} {a : Act} (h : Agr n T a) : ∀ {xs : List Operand} {vs : List Value}, evs T xs = some vs → xs.map a.eval = vs
  | [], vs, hx => by simp [evs] at hx; simp [hx]
  | x :: xs, vs, hx => by
    simp only [evs] at hx
    split at hx
    · rename_i v us h1 h2
      simp only [Option.some.injEq] at hx
      subst hx
      rw [List.map_cons, h.eval h1, h.evals h2]
    · simp at hx
theorem Agr.put {n : Nat} {T : List (Nat × Value)} {a : Act} (h : Agr n T a) {d : Nat} (v : Value) (hd : Nat.blt d n = true) : Agr n ((d, v) :: T) (a.put (some d) v) := by
  have hdn : d < a.tmps.size := by rw [h.size]; exact Nat.blt_eq ▸ hd
  have hne : Nat.beq d dslot = false := by
    have := h.small
    have := h.size
    rw [← Bool.not_eq_true]
    intro e
    have := Nat.eq_of_beq_eq_true e
    omega
  refine ⟨by simpa [Act.put] using h.size, h.small, by simpa only [dfs, lk, hne, cond_false, Act.put] using h.defers, fun t u ht => ?_⟩
  obtain ⟨htd, ht⟩ := lks_lk ht
  simp only [lk] at ht
  cases hb : Nat.beq d t with
  | true =>
    have e : d = t := Nat.eq_of_beq_eq_true hb
    subst e
    simp at ht
    subst ht
    simp [Act.put, hdn]
  | false =>
    have e : d ≠ t := Nat.ne_of_beq_eq_false hb
    simp [hb] at ht
    simp only [Act.put, Array.getElem?_setIfInBounds_ne e]
    exact h.slot _ _ (lks_of htd ht)
theorem Agr.put_none {n : Nat} {T : List (Nat × Value)} {a : Act} (h : Agr n T a) (v : Value) : Agr n T (a.put none v) := h
def subT (T : List (Nat × Value)) : List (Nat × Value) → Prop
  | [] => match lk T dslot with
    | none => True
    | some _ => False
  | (i, v) :: T' => lk T i = some v ∧ subT T T'
theorem subT_d {T : List (Nat × Value)} : ∀ {T' : List (Nat × Value)}, subT T T' → lk T dslot = none
  | [], h => by unfold subT at h; split at h <;> simp_all
  | (_, _) :: _, h => subT_d h.2
theorem subT_lk {T : List (Nat × Value)} : ∀ {T' : List (Nat × Value)}, subT T T' → ∀ t v, lk T' t = some v → lk T t = some v
  | [], _, t, v, h => by simp [lk] at h
  | (i, u) :: T', hs, t, v, h => by
    simp only [lk] at h
    cases hb : Nat.beq i t with
    | true =>
      have e : i = t := Nat.eq_of_beq_eq_true hb
      subst e
      simp at h
      rw [← h]; exact hs.1
    | false => simp [hb] at h; exact subT_lk hs.2 t v h
theorem Agr.sub {n : Nat} {T T' : List (Nat × Value)} {a : Act} (h : Agr n T a) (hs : subT T T') : Agr n T' a := by
  refine ⟨h.size, h.small, ?_, fun t v ht => h.slot t v (lks_of (lks_lk ht).1 (subT_lk hs t v (lks_lk ht).2))⟩
  have h1 := subT_d hs
  have h2 : lk T' dslot = none := by
    cases h3 : lk T' dslot with
    | none => rfl
    | some v => have := subT_lk hs _ _ h3; rw [h1] at this; cases this
  rw [h.defers]
  simp only [dfs, h1, h2]
/-! ### what has turned -/
structure Ch (X : List Nat) (w w' : World) : Prop where
  os : w'.os = w.os
  tape : w'.tape = w.tape
  output : w'.output = w.output
  size : w.heap.size ≤ w'.heap.size
  block : ∀ k, k < w.heap.size → k ∉ X → w'.heap[k]? = w.heap[k]?
theorem Ch.refl (X : List Nat) (w : World) : Ch X w w := ⟨rfl, rfl, rfl, Nat.le_refl _, fun _ _ _ => rfl⟩
theorem Ch.below {w w' : World} (h : Ch [] w w') : Below w.heap.size w w' := ⟨h.os, h.tape, h.output, h.size, fun k hk => h.block k hk (by simp)⟩
theorem Ch.of_below {w w' : World} (h : Below w.heap.size w w') : Ch [] w w' := ⟨h.os, h.tape, h.output, h.size, fun k hk _ => h.block k hk⟩
theorem Ch.trans {X : List Nat} {a b c : World} (h : Ch X a b) (k : Ch X b c) : Ch X a c :=
  ⟨k.os.trans h.os, k.tape.trans h.tape, k.output.trans h.output, Nat.le_trans h.size k.size, fun i hi hx => (k.block i (Nat.lt_of_lt_of_le hi h.size) hx).trans (h.block i hi hx)⟩
theorem Ch.drew {X : List Nat} {w w' : World} (h : Ch X w w') (n : Nat) : Ch X w { w' with drawn := n } := ⟨h.os, h.tape, h.output, h.size, h.block⟩
theorem Ch.call {X Y : List Nat} {a b c : World} (h : Ch X a b) (k : Ch Y b c) (hY : ∀ g ∈ Y, g ∈ X ∨ a.heap.size ≤ g) : Ch X a c :=
  ⟨k.os.trans h.os, k.tape.trans h.tape, k.output.trans h.output, Nat.le_trans h.size k.size, fun i hi hx => (k.block i (Nat.lt_of_lt_of_le hi h.size) (fun hm => (hY i hm).elim hx (fun hl => absurd hi (by omega)))).trans (h.block i hi hx)⟩
theorem Ch.mono {X Y : List Nat} {a b : World} (h : Ch X a b) (hX : ∀ g ∈ X, g ∈ Y) : Ch Y a b := ⟨h.os, h.tape, h.output, h.size, fun i hi hx => h.block i hi (fun hm => hx (hX i hm))⟩
theorem Ch.alloc {X : List Nat} {a b : World} (h : Ch X a b) (o : Obj) : Ch X a (b.alloc o) :=
  h.trans ⟨rfl, rfl, rfl, by simp, fun k hk _ => Below.heap_alloc _ _ _ hk⟩
theorem Ch.setCell {X : List Nat} {a b : World} (h : Ch X a b) {p : Addr} (hp : p.block ∈ X ∨ a.heap.size ≤ p.block) (u : Value) : Ch X a (b.setCell p u) :=
  h.call (Y := [p.block]) ⟨rfl, rfl, rfl, by simp [World.setCell], fun k _ hk => Below.heap_setCell _ _ _ _ (by simpa using hk)⟩ (by simpa using hp)
theorem Ch.cell {X : List Nat} {w w' : World} (h : Ch X w w') {p : Addr} {v : Value} (hc : w.cell? p = some v) (hx : p.block ∉ X) : w'.cell? p = some v := by
  have hlt := World.block_lt_of_cell? w _ hc
  rw [← hc]
  exact World.cell?_of_block (w := w) (h.block p.block hlt hx)
/-! ### chunks -/
inductive Chunk where
  | blk (g : Nat) (o : Obj)
    | sl (b : Option Addr) (cap : Nat) (e : TypeId) (sz : Nat) (xs : List Value)
def Chunk.foot : Chunk → List Nat
  | .blk g _ => [g]
  | .sl none _ _ _ _ => []
  | .sl (some a) _ _ _ _ => [a.block]
def Chunk.ok (w : World) : Chunk → Prop
  | .blk g o => w.heap[g]? = some o
  | .sl b cap e sz xs => (b = none ∧ cap = 0 ∧ xs = []) ∨ ∃ g cs, b = some ⟨g, 0, none⟩ ∧ w.heap[g]? = some (.cells cs e (0, 0)) ∧ cs.size = cap * sz ∧ cs.toList.take xs.length = xs
def feet (L : List Chunk) : List Nat := L.flatMap Chunk.foot
structure Has (L : List Chunk) (w : World) : Prop where
  ok : ∀ c ∈ L, c.ok w
  apart : (feet L).Nodup
theorem ok_congr {w w' : World} {c : Chunk} (h : ∀ g ∈ c.foot, w'.heap[g]? = w.heap[g]?) (hc : c.ok w) : c.ok w' := by
  cases c with
  | blk g o => simp only [Chunk.ok] at *; rw [h g (by simp [Chunk.foot])]; exact hc
  | sl b cap e sz xs =>
    simp only [Chunk.ok] at *
    rcases hc with hc | ⟨g, cs, rfl, h1, h2⟩
    · exact .inl hc
    · exact .inr ⟨g, cs, rfl, by rw [h g (by simp [Chunk.foot])]; exact h1, h2⟩
theorem foot_lt {w : World} {c : Chunk} (hc : c.ok w) : ∀ g ∈ c.foot, g < w.heap.size := by
  have key : ∀ (g : Nat) (o : Obj), w.heap[g]? = some o → g < w.heap.size := fun g o h => by
    rcases Nat.lt_or_ge g w.heap.size with h' | h'
    · exact h'
    · simp [Array.getElem?_eq_none h'] at h
  intro g hg
  cases c with
  | blk g' o => simp [Chunk.foot] at hg; subst hg; exact key _ _ hc
  | sl b cap e sz xs =>
    rcases hc with ⟨rfl, _⟩ | ⟨g', cs, rfl, h1, _⟩
    · simp [Chunk.foot] at hg
    · simp [Chunk.foot] at hg; subst hg; exact key _ _ h1
theorem Has.lt {L : List Chunk} {w : World} (h : Has L w) : ∀ g ∈ feet L, g < w.heap.size := by
  intro g hg
  obtain ⟨c, hc, hg⟩ := List.mem_flatMap.1 hg
  exact foot_lt (h.ok c hc) g hg
theorem Has.congr {L : List Chunk} {w w' : World} (h : Has L w) (hk : ∀ g ∈ feet L, w'.heap[g]? = w.heap[g]?) : Has L w' :=
  ⟨fun c hc => ok_congr (fun g hg => hk g (List.mem_flatMap.2 ⟨c, hc, hg⟩)) (h.ok c hc), h.apart⟩
theorem Has.drew {L : List Chunk} {w : World} (h : Has L w) (n : Nat) : Has L { w with drawn := n } := h.congr (fun _ _ => rfl)
theorem Has.cons {L : List Chunk} {w : World} (h : Has L w) {c : Chunk} (hc : c.ok w) (hn : ∀ g ∈ c.foot, g ∉ feet L) (hd : c.foot.Nodup) : Has (c :: L) w := by
  refine ⟨fun c' hc' => ?_, ?_⟩
  · rcases List.mem_cons.1 hc' with rfl | h'
    · exact hc
    · exact h.ok _ h'
  · simp only [feet, List.flatMap_cons]
    exact List.nodup_append.2 ⟨hd, h.apart, fun a ha b hb e => hn a ha (e ▸ hb)⟩
theorem Has.nil (w : World) : Has [] w := ⟨by simp, by simp [feet]⟩
theorem foot_nodup (c : Chunk) : c.foot.Nodup := by
  cases c with
  | blk g o => simp [Chunk.foot]
  | sl b cap e sz xs => cases b <;> simp [Chunk.foot]
theorem feet_append (L L' : List Chunk) : feet (L ++ L') = feet L ++ feet L' := by simp [feet]
theorem Has.sub {L L' : List Chunk} {w : World} (h : Has L w) (hs : L'.Sublist L) : Has L' w :=
  ⟨fun c hc => h.ok c (hs.subset hc), h.apart.sublist (by
    clear h
    induction hs with
    | slnil => exact List.Sublist.refl _
    | cons c _ ih => exact ih.trans (List.sublist_append_right _ _)
    | cons_cons c _ ih => exact List.Sublist.append_left ih _)⟩
theorem Has.alloc {L : List Chunk} {w : World} (h : Has L w) (o : Obj) : Has (.blk w.heap.size o :: L) (w.alloc o) := by
  have h' : Has L (w.alloc o) := h.congr fun g hg => Below.heap_alloc _ _ _ (h.lt g hg)
  refine h'.cons (show (w.heap.push o)[w.heap.size]? = some o by simp) (fun g hg hm => ?_) (by simp [Chunk.foot])
  have := h.lt g hm
  simp [Chunk.foot] at hg
  omega
end Go.Proofs.YtgmghkakiocmjaaGreatDoor
namespace Go.Proofs.YtgmghkakiocmjaaGreatDoor
open Go Go.RowKit
set_option linter.unusedVariables false
/-! ### out of the plain walk into a frame of whatever make -/
def fen (ro : Option Nat) : Fence := { Fence.wide with round := ro }
def notDefer : Op → Bool
  | .defer _ => false
  | _ => true
theorem notDefer_spec {op : Op} (h : notDefer op = true) : ∀ c, op ≠ .defer c := fun c e => by subst e; simp [notDefer] at h
theorem calls_fen {P : Program} {ro : Option Nat} {n : Nat} {f : FuncId} {args : Array Value} {w : World} {R : Ending → World → Prop} (h : Calls P f args w R) : CallsIn (fen ro) n P f args w R := by
  cases ro with
  | none => exact callsIn_wide.2 h
  | some l => exact CallsIn.inRound (F := Fence.wide) l (callsIn_wide.2 h)
theorem wpIn_of_op {P : Program} {ro : Option Nat} {o : Oper} {a : Act} {w : World} {K : Act → World → Prop} {Q : Exit → Act → World → Prop} (hnd : (ro.isNone || notDefer o.op) = true) (h : o.wp P a w K Q) : o.wpIn (fen ro) 0 P a w K Q := by
  refine ⟨fun _ _ => trivial, ?_⟩
  have e : Oper.semAt (fen ro).round a.eval o = execOp a.eval o := by
    cases ro with
    | none => rfl
    | some l => exact Oper.semAt_some l _ _ (notDefer_spec (by simpa using hnd))
  rw [e]
  unfold Oper.wp at h
  generalize (execOp a.eval o).run P w = r at h ⊢
  cases r with
  | ok n w' =>
    cases n <;> simp only [Oper.upon, Oper.uponIn] at h ⊢ <;>
      first
        | exact h
        | exact h.elim
        | exact ⟨fun h' => (by simp [fen, Fence.wide] at h'), calls_fen h⟩
        | exact ⟨fun h' => (by simp [fen, Fence.wide] at h'), fun c cs _ => (let ⟨v, w', r, s⟩ := h c cs; ⟨v, w', r, (StepsIn.of_steps s).mono fun m _ => fenced_wide P m⟩)⟩
  | halt x w' => cases x <;> simp only [Oper.upon, Oper.uponIn] at h ⊢ <;> exact h
structure SS (n : Nat) (T : List (Nat × Value)) (X : List Nat) (w0 : World) (m : Nat) (L : List Chunk) (a : Act) (w : World) : Prop where
  agr : Agr n T a
  ch : Ch X w0 w
  size : w.heap.size = m
  has : Has L w
structure Qt (P : Program) (X : List Nat) (w0 : World) (o : Oper) (T : List (Nat × Value)) (L : List Chunk) (v : Value) : Prop where
  h : ∀ n a w, Agr n T a → Ch X w0 w → Has L w → (execOp a.eval o).run P w = .ok (.value v) w
structure CA (P : Program) (f : FuncId) (vs : List Value) (w : World) (R : Ending → World → Prop) : Prop where
  h : Calls P f vs.toArray w R
inductive Ct where
  | thn (K : Act → World → Prop) (Q : Ct)
  | blk (id : Nat) (Q : Ct)
  | post (P : Program) (fn : Func) (R : Ending → World → Prop)
    | postM (P : Program) (fn : Func) (R : Ending → World → Prop)
    | rnd (l : Nat) (R : Exit → Act → World → Prop)
def Ct.ro : Ct → Option Nat
  | .thn _ Q => Q.ro
  | .blk _ Q => Q.ro
  | .post _ _ _ => none
  | .postM _ _ _ => none
  | .rnd l _ => some l
def Ct.den : Ct → Exit → Act → World → Prop
  | .rnd _ R => R
  | .postM P fn R => bodyPostM Fence.wide 0 P fn R
  | .thn K Q => Exit.then K Q.den
  | .blk id Q => Exit.inBlock id Q.den
  | .post P fn R => bodyPost P fn R
structure CW (P : Program) (c : Code) (Q : Ct) (a : Act) (w : World) : Prop where
  h : c.wpIn (fen Q.ro) 0 P Q.den a w
structure WL (P : Program) (ops : Array Oper) (Q : Ct) (l : List Oper) (a : Act) (w : World) : Prop where
  h : wpListIn (fen Q.ro) 0 P ops Q.den l a w
structure OW (P : Program) (o : Oper) (K : Act → World → Prop) (Q : Exit → Act → World → Prop) (a : Act) (w : World) : Prop where
  h : Oper.wp P o a w K Q
structure EX (Q : Ct) (e : Exit) (a : Act) (w : World) : Prop where
  h : Q.den e a w
structure RN (P : Program) (c : Code) (Q : Ct) (k : Nat) (a : Act) (w : World) : Prop where
  h : Code.roundsIn (fen Q.ro) 0 P c Q.den k a w
section
variable {P : Program} {n m d : Nat} {T : List (Nat × Value)} {X : List Nat} {w0 : World} {L : List Chunk} {ops : Array Oper} {rest : List Oper} {Q : Ct} {Qf : Exit → Act → World → Prop} {F K : Act → World → Prop}
  {op : Op} {ty : TypeId} {pos : String} {af : Array Edge} {gu : Option (Nat × Bool)} {v : Value} {x y : Code} {id id' : Nat} {c : Operand}
theorem Qt.cast {o : Oper} {v v' : Value} (h : v = v') (hq : Qt P X w0 o T L v) : Qt P X w0 o T L v' := h ▸ hq
theorem st_q (hq : Qt P X w0 ⟨some d, op, ty, pos, af, none⟩ T L v) (hd : Nat.blt d n = true) (h : ∀ a w, SS n ((d, v) :: T) X w0 m L a w → WL P ops Q rest a w) (hnd : (Q.ro.isNone || notDefer op) = true := by rfl) :
    ∀ a w, SS n T X w0 m L a w → WL P ops Q (⟨some d, op, ty, pos, af, none⟩ :: rest) a w := by
  intro a w hs
  refine ⟨wpListIn_plain rfl fun K hK => wpIn_of_op hnd ?_⟩
  unfold Oper.wp
  rw [hq.h n a w hs.agr hs.ch hs.has, Oper.upon_value]
  exact hK _ _ (h _ _ ⟨hs.agr.put v hd, hs.ch, hs.size, hs.has⟩).h
theorem st_e (h : ∀ a w, SS n T X w0 m L a w → OW P ⟨some d, op, ty, pos, af, none⟩ (WL P ops Q rest) Q.den a w) (hnd : (Q.ro.isNone || notDefer op) = true := by rfl) :
    ∀ a w, SS n T X w0 m L a w → WL P ops Q (⟨some d, op, ty, pos, af, none⟩ :: rest) a w := by
  intro a w hs
  refine ⟨wpListIn_plain rfl fun K hK => wpIn_of_op hnd (Oper.wp_mono (fun _ _ h => hK _ _ h.h) (h a w hs).h)⟩
theorem st_e0 (h : ∀ a w, SS n T X w0 m L a w → OW P ⟨none, op, ty, pos, af, none⟩ (WL P ops Q rest) Q.den a w) (hnd : (Q.ro.isNone || notDefer op) = true := by rfl) :
    ∀ a w, SS n T X w0 m L a w → WL P ops Q (⟨none, op, ty, pos, af, none⟩ :: rest) a w := by
  intro a w hs
  refine ⟨wpListIn_plain rfl fun K hK => wpIn_of_op hnd (Oper.wp_mono (fun _ _ h => hK _ _ h.h) (h a w hs).h)⟩
def gd (ops : Array Oper) (T : List (Nat × Value)) (j : Nat) : Option Value :=
  match ops[j]? with
  | some o => match o.dst with
    | some t => lks T t
    | none => none
  | none => none
theorem yielded_of {a : Act} (hA : Agr n T a) {j : Nat} {b : Bool} (h : gd ops T j = some (.bool b)) : yielded ops a.tmps j = some b := by
  unfold gd at h
  unfold yielded
  cases ho : ops[j]? with
  | none => simp [ho] at h
  | some o =>
    simp only [ho] at h
    cases hd : o.dst with
    | none => simp [hd] at h
    | some t =>
      simp only [hd] at h
      simp [hd, hA.slot t _ h]
theorem st_skip {j : Nat} {b want : Bool} (hg : gd ops T j = some (.bool b)) (hb : (b == want) = false) (hd : Nat.blt d n = true)
    (h : ∀ a w, SS n ((d, undef) :: T) X w0 m L a w → WL P ops Q rest a w) :
    ∀ a w, SS n T X w0 m L a w → WL P ops Q (⟨some d, op, ty, pos, af, some (j, want)⟩ :: rest) a w := by
  intro a w hs
  refine ⟨?_⟩
  unfold wpListIn
  rw [if_neg (by simp only [Region.wanted, yielded_of hs.agr hg]; intro h'; simp at h'; subst h'; simp at hb)]
  exact ⟨fun _ _ => trivial, (h _ _ ⟨hs.agr.put undef hd, hs.ch, hs.size, hs.has⟩).h⟩
theorem st_want {j : Nat} {b want : Bool} (hg : gd ops T j = some (.bool b)) (hb : (b == want) = true) {dst : Option Tmp}
    (h : ∀ a w, SS n T X w0 m L a w → WL P ops Q (⟨dst, op, ty, pos, af, none⟩ :: rest) a w) :
    ∀ a w, SS n T X w0 m L a w → WL P ops Q (⟨dst, op, ty, pos, af, some (j, want)⟩ :: rest) a w := by
  intro a w hs
  have h1 := (h a w hs).h
  refine ⟨?_⟩
  unfold wpListIn at h1 ⊢
  rw [if_pos (by simp [Region.wanted])] at h1
  rw [if_pos (by simp only [Region.wanted, yielded_of hs.agr hg]; simp at hb; simp [hb])]
  exact h1
theorem cs {b : Bool} (ht : b = true → ∀ a w, SS n ((d, .bool true) :: T) X w0 m L a w → F a w) (hf : b = false → ∀ a w, SS n ((d, .bool false) :: T) X w0 m L a w → F a w) :
    ∀ a w, SS n ((d, .bool b) :: T) X w0 m L a w → F a w := by
  cases b
  · exact hf rfl
  · exact ht rfl
theorem chg {L' : List Chunk} (e : L = L') (h : ∀ a w, SS n T X w0 m L' a w → F a w) : ∀ a w, SS n T X w0 m L a w → F a w := e ▸ h
/-! ### control -/
theorem c_seq (h : ∀ a w, SS n T X w0 m L a w → CW P x (.thn (CW P y Q) Q) a w) : ∀ a w, SS n T X w0 m L a w → CW P (Code.seq x y) Q a w :=
  fun a w hs => ⟨wpIn_seq (wpIn_mono (h a w hs).h fun e a w hq => by cases e <;> first | exact hq | exact CW.h hq)⟩
theorem c_block (h : ∀ a w, SS n T X w0 m L a w → CW P x (.blk id Q) a w) : ∀ a w, SS n T X w0 m L a w → CW P (Code.block id x) Q a w := fun a w hs => ⟨wpIn_block (h a w hs).h⟩
theorem c_skip (h : ∀ a w, SS n T X w0 m L a w → EX Q .normal a w) : ∀ a w, SS n T X w0 m L a w → CW P Code.skip Q a w := fun a w hs => ⟨wpIn_skip (h a w hs).h⟩
theorem c_ret (h : ∀ a w, SS n T X w0 m L a w → EX Q .ret a w) : ∀ a w, SS n T X w0 m L a w → CW P Code.ret Q a w := fun a w hs => ⟨wpIn_ret (h a w hs).h⟩
theorem c_exit (h : ∀ a w, SS n T X w0 m L a w → EX Q (.exit id) a w) : ∀ a w, SS n T X w0 m L a w → CW P (Code.exit id) Q a w := fun a w hs => ⟨wpIn_exit (h a w hs).h⟩
theorem c_region {l : List Oper} (h : ∀ a w, SS n T X w0 m L a w → WL P l.toArray Q l a w) : ∀ a w, SS n T X w0 m L a w → CW P (Code.region id l.toArray false) Q a w :=
  fun a w hs => ⟨wpIn_region_lit (h a w hs).h⟩
theorem l_nil (h : ∀ a w, SS n T X w0 m L a w → EX Q .normal a w) : ∀ a w, SS n T X w0 m L a w → WL P ops Q [] a w := fun a w hs => ⟨(h a w hs).h⟩
theorem n_then (h : ∀ a w, SS n T X w0 m L a w → K a w) : ∀ a w, SS n T X w0 m L a w → EX (.thn K Q) .normal a w := fun a w hs => ⟨h a w hs⟩
theorem n_then_exit (h : ∀ a w, SS n T X w0 m L a w → EX Q (.exit id) a w) : ∀ a w, SS n T X w0 m L a w → EX (.thn K Q) (.exit id) a w := fun a w hs => ⟨(h a w hs).h⟩
theorem n_then_ret (h : ∀ a w, SS n T X w0 m L a w → EX Q .ret a w) : ∀ a w, SS n T X w0 m L a w → EX (.thn K Q) .ret a w := fun a w hs => ⟨(h a w hs).h⟩
theorem n_block (h : ∀ a w, SS n T X w0 m L a w → EX Q .normal a w) : ∀ a w, SS n T X w0 m L a w → EX (.blk id Q) .normal a w := fun a w hs => ⟨(h a w hs).h⟩
theorem n_block_ret (h : ∀ a w, SS n T X w0 m L a w → EX Q .ret a w) : ∀ a w, SS n T X w0 m L a w → EX (.blk id Q) .ret a w := fun a w hs => ⟨(h a w hs).h⟩
theorem n_block_eq (h : ∀ a w, SS n T X w0 m L a w → EX Q .normal a w) : ∀ a w, SS n T X w0 m L a w → EX (.blk id Q) (.exit id) a w := fun a w hs => ⟨by
  simp only [Ct.den, Exit.inBlock, if_true]; exact (h a w hs).h⟩
theorem n_block_ne (hne : Nat.beq id' id = false) (h : ∀ a w, SS n T X w0 m L a w → EX Q (.exit id') a w) : ∀ a w, SS n T X w0 m L a w → EX (.blk id Q) (.exit id') a w := fun a w hs => ⟨by
  simp only [Ct.den, Exit.inBlock, if_neg (Nat.ne_of_beq_eq_false hne)]; exact (h a w hs).h⟩
theorem c_cond_t (hc : ev T c = some (.bool true)) (h : ∀ a w, SS n T X w0 m L a w → CW P x Q a w) : ∀ a w, SS n T X w0 m L a w → CW P (Code.cond c x y) Q a w :=
  fun a w hs => ⟨wpIn_cond_true (hs.agr.eval hc) (h a w hs).h⟩
theorem c_cond_f (hc : ev T c = some (.bool false)) (h : ∀ a w, SS n T X w0 m L a w → CW P y Q a w) : ∀ a w, SS n T X w0 m L a w → CW P (Code.cond c x y) Q a w :=
  fun a w hs => ⟨wpIn_cond_false (hs.agr.eval hc) (h a w hs).h⟩
/-! ### a loop -/
structure LoopK {γ : Type} (n : Nat) (X : List Nat) (w0 : World) (T' : γ → List (Nat × Value)) (m' : γ → Nat) (L' : γ → List Chunk) (Φ : γ → Prop) (μ : γ → Nat) (k : Nat) (a : Act) (w : World) : Prop where
  h : ∃ y, Φ y ∧ μ y < k ∧ SS n (T' y) X w0 (m' y) (L' y) a w
theorem c_loop {γ : Type} (T' : γ → List (Nat × Value)) (m' : γ → Nat) (L' : γ → List Chunk) (Φ : γ → Prop) (μ : γ → Nat) (x0 : γ) (h0 : Φ x0) (hT : subT T (T' x0)) (hm : m' x0 = m) (hL : (L' x0).Sublist L)
    (round : ∀ z, Φ z → ∀ a w, SS n (T' z) X w0 (m' z) (L' z) a w → CW P x (.thn (LoopK n X w0 T' m' L' Φ μ (μ z)) Q) a w) :
    ∀ a w, SS n T X w0 m L a w → CW P (Code.loop x) Q a w := by
  intro a w hs
  refine ⟨wpIn_loop_ghost (fun k a w => ∃ y, Φ y ∧ μ y = k ∧ SS n (T' y) X w0 (m' y) (L' y) a w) (μ x0) ⟨x0, h0, rfl, ⟨hs.agr.sub hT, hs.ch, hm ▸ hs.size, hs.has.sub hL⟩⟩ ?_⟩
  rintro k a w ⟨z, hz, rfl, hs⟩
  refine wpIn_mono (round z hz a w hs).h ?_
  intro e a' w' hq
  cases e with
  | normal => obtain ⟨y, hy, hlt, hs'⟩ := LoopK.h hq; exact ⟨μ y, hlt, y, hy, rfl, hs'⟩
  | _ => exact hq
theorem c_round {γ : Type} {T' : γ → List (Nat × Value)} {m' : γ → Nat} {L' : γ → List Chunk} {Φ : γ → Prop} {μ : γ → Nat} {k : Nat} (y : γ) (hy : Φ y) (hlt : μ y < k) (hT : subT T (T' y)) (hm : m' y = m) (hL : (L' y).Sublist L) :
    ∀ a w, SS n T X w0 m L a w → LoopK n X w0 T' m' L' Φ μ k a w :=
  fun a w hs => ⟨y, hy, hlt, hs.agr.sub hT, hs.ch, hm ▸ hs.size, hs.has.sub hL⟩
theorem c_rounds (k : Nat) (h : ∀ a w, SS n T X w0 m L a w → RN P x Q k a w) : ∀ a w, SS n T X w0 m L a w → CW P (Code.loop x) Q a w := fun a w hs => ⟨wpIn_loop_rounds k (h a w hs).h⟩
theorem r_succ {k : Nat} (h : ∀ a w, SS n T X w0 m L a w → CW P x (.thn (RN P x Q k) Q) a w) : ∀ a w, SS n T X w0 m L a w → RN P x Q (k + 1) a w :=
  fun a w hs => ⟨wpIn_mono (h a w hs).h fun e a w hq => by cases e <;> first | exact hq | exact RN.h hq⟩
/-! ### a call, and a return -/
def Ret {α : Type} (V : α → Value) (X : List Nat) (N : α → List Chunk) (Φ : α → Prop) (w : World) (e : Ending) (w' : World) : Prop :=
  ∃ z, e = .returned (V z) ∧ Ch X w w' ∧ Has (N z) w' ∧ (∀ g ∈ feet (N z), g ∈ X ∨ w.heap.size ≤ g) ∧ Φ z
def bodied (P : Program) (f : FuncId) : Bool :=
  match P.funcs[f]? with
  | some fn => !(fn.name == "runtime.NumGoroutine") && fn.body.isSome
  | none => false
theorem run_callFunc_bodied {f : FuncId} (h : bodied P f = true) (args : Array Value) (w : World) : (callFunc f args).run P w = .ok (.enter f args) w := by
  unfold bodied at h
  cases hf : P.funcs[f]? with
  | none => simp [hf] at h
  | some fn =>
    simp [hf] at h
    obtain ⟨h1, h2⟩ := h
    have h2' : ¬ fn.body = none := by intro e; simp [e] at h2
    simp [callFunc, program, Sem.run, hf, h1, h2']
theorem wp_call_of {o : Oper} {fop : Operand} {xs : List Operand} {ats : Array TypeId} (ho : o.op = .call { callee := .value fop, args := xs.toArray, argTypes := ats }) {f : FuncId} {first cap : Array Value} {vs : List Value} {a : Act} {w : World}
    (hf : a.eval fop = .func (.func f) first cap) (ha : xs.map a.eval = vs) (hb : bodied P f = true) {R : Ending → World → Prop} (hc : Calls P f (first ++ vs.toArray ++ cap) w R) (hR : ∀ e w', R e w' → ∃ v, e = .returned v ∧ K (a.put o.dst v) w') : OW P o K Qf a w := by
  refine ⟨?_⟩
  unfold Oper.wp execOp
  simp only [ho, resolve, hf, Deferred.ofValue, invoke, Sem.run_bind, Sem.run_pure, Result.andThen_ok, List.map_toArray, ha, run_callFunc_bodied hb]
  refine Calls.mono hc fun e w' he => ?_
  obtain ⟨v, rfl, hk⟩ := hR e w' he
  exact hk
theorem e_call {α : Type} {V : α → Value} {Y : List Nat} {N : α → List Chunk} {Φ : α → Prop} {fop : Operand} {xs : List Operand} {ats : Array TypeId} {f : FuncId} {vs : List Value} {L' : List Chunk}
    (hf : ev T fop = some (.func (.func f) #[] #[])) (hargs : evs T xs = some vs) (hb : bodied P f = true) (hd : Nat.blt d n = true)
    (hcon : ∀ w, Ch X w0 w → w.heap.size = m → Has L w → CA P f vs w (Ret V Y N Φ w))
    (hY : ∀ g ∈ Y, g ∈ X ∨ w0.heap.size ≤ g) (hL' : L'.Sublist L) (hYL : ∀ g ∈ Y, g ∉ feet L')
    (h : ∀ z m', Φ z → (∀ g ∈ feet (N z), g ∈ Y ∨ m ≤ g) → m ≤ m' → ∀ a w, SS n ((d, V z) :: T) X w0 m' (N z ++ L') a w → K a w) :
    ∀ a w, SS n T X w0 m L a w → OW P ⟨some d, .call { callee := .value fop, args := xs.toArray, argTypes := ats }, ty, pos, af, gu⟩ K Qf a w := by
  intro a w hs
  refine wp_call_of rfl (hs.agr.eval hf) (hs.agr.evals hargs) hb (by simpa using (hcon w hs.ch hs.size hs.has).h) ?_
  rintro e w' ⟨z, rfl, hch, hN, hnew, hz⟩
  refine ⟨_, rfl, h z w'.heap.size hz (fun g hg => by have := hnew g hg; rw [hs.size] at this; exact this) (by have := hch.size; have := hs.size; omega) _ _ ⟨hs.agr.put _ hd, hs.ch.call hch hY, rfl, ?_⟩⟩
  have hk : Has L' w' := (hs.has.sub hL').congr fun g hg => hch.block g ((hs.has.sub hL').lt g hg) (fun hm => hYL g hm hg)
  refine ⟨fun c hc => (List.mem_append.1 hc).elim (hN.ok c) (hk.ok c), ?_⟩
  rw [feet_append]
  refine List.nodup_append.2 ⟨hN.apart, hk.apart, fun a1 h1 b1 h2 e => ?_⟩
  subst e
  rcases hnew a1 h1 with hy | hy
  · exact hYL a1 hy h2
  · have := (hs.has.sub hL').lt a1 h2; omega
theorem e_callp {fop : Operand} {xs : List Operand} {ats : Array TypeId} {f : FuncId} {vs : List Value}
    (hf : ev T fop = some (.func (.func f) #[] #[])) (hargs : evs T xs = some vs) (hb : bodied P f = true) (hd : Nat.blt d n = true)
    (hcon : ∀ w, Ch X w0 w → w.heap.size = m → Has L w → CA P f vs w (Ret (fun _ : Unit => v) [] (fun _ => []) (fun _ => True) w))
    (h : ∀ m', m ≤ m' → ∀ a w, SS n ((d, v) :: T) X w0 m' L a w → K a w) :
    ∀ a w, SS n T X w0 m L a w → OW P ⟨some d, .call { callee := .value fop, args := xs.toArray, argTypes := ats }, ty, pos, af, gu⟩ K Qf a w :=
  e_call hf hargs hb hd hcon (by simp) (List.Sublist.refl _) (by simp) fun _ m' _ _ hm => h m' hm
abbrev RV (v : Value) (w : World) : Ending → World → Prop := Ret (fun _ : Unit => v) [] (fun _ => []) (fun _ => True) w
theorem ret_same {f : FuncId} {args : List Value} {w : World} (h : Calls P f args.toArray w fun e w' => e = .returned v ∧ w' = w) : CA P f args w (RV v w) :=
  ⟨Calls.mono h fun e w' ⟨he, hb⟩ => ⟨(), he, hb ▸ Ch.refl _ _, Has.nil _, by simp [feet], trivial⟩⟩
theorem below_ret {f : FuncId} {args : List Value} {w : World} (h : CA P f args w (RV v w)) : Calls P f args.toArray w fun e w' => e = .returned v ∧ Below w.heap.size w w' :=
  Calls.mono h.h fun e w' ⟨_, he, hc, _⟩ => ⟨he, hc.below⟩
/-! ### entry and return -/
def numbered : Nat → List Value → List (Nat × Value)
  | _, [] => []
  | i, v :: vs => (i, v) :: numbered (i + 1) vs
theorem lk_numbered (vs : List Value) : ∀ (i t : Nat) (v : Value), lk (numbered i vs) t = some v → i ≤ t ∧ vs[t - i]? = some v := by
  induction vs with
  | nil => intro i t v h; simp [numbered, lk] at h
  | cons u us ih =>
    intro i t v h
    simp only [numbered, lk] at h
    cases hb : Nat.beq i t with
    | true =>
      have e : i = t := Nat.eq_of_beq_eq_true hb
      subst e
      simp at h
      simp [h]
    | false =>
      have e : i ≠ t := Nat.ne_of_beq_eq_false hb
      simp [hb] at h
      obtain ⟨h1, h2⟩ := ih _ _ _ h
      refine ⟨by omega, ?_⟩
      rw [show t - i = (t - (i + 1)) + 1 by omega]
      simpa using h2
theorem enter_agr {n : Nat} {vs : List Value} {T : List (Nat × Value)} (hv : (Nat.ble vs.length n && Nat.ble n dslot) = true) (hT : numbered 0 vs = T) : Agr n T { tmps := vs.toArray ++ Array.replicate (n - vs.toArray.size) undef, defers := [] } := by
  simp only [Bool.and_eq_true] at hv
  have h1 := Nat.le_of_ble_eq_true hv.1
  have h2 := Nat.le_of_ble_eq_true hv.2
  have hnone : lk T dslot = none := by
    subst hT
    cases h3 : lk (numbered 0 vs) dslot with
    | none => rfl
    | some v =>
      obtain ⟨_, h4⟩ := lk_numbered vs 0 _ v h3
      rw [List.getElem?_eq_none (by omega)] at h4
      cases h4
  refine ⟨by simp; omega, h2, by simp only [dfs, hnone], ?_⟩
  intro t v ht
  have ht := (lks_lk ht).2
  subst hT
  obtain ⟨_, h2⟩ := lk_numbered vs 0 t v ht
  have hlt : t < vs.length := by
    rcases Nat.lt_or_ge t vs.length with h' | h'
    · exact h'
    · simp [List.getElem?_eq_none h'] at h2
  simp only [Nat.sub_zero] at h2
  rw [Array.getElem?_append_left (by simpa using hlt)]
  simpa using h2
theorem enter {f : FuncId} {fn : Func} {c : Code} {vs : List Value} {w : World} {R : Ending → World → Prop} (hf : P.funcs[f]? = some fn) (hb : fn.body = some c) (hn : fn.ntmps = n) (hv : (Nat.ble vs.length n && Nat.ble n dslot) = true) (hT : numbered 0 vs = T) (hL : Has L w)
    (h : ∀ a w', SS n T X w w.heap.size L a w' → CW P c (.post P fn R) a w') : CA P f vs w R := by
  subst hn
  exact ⟨calls_of_wp hf hb (wpIn_wide.1 (h _ _ ⟨enter_agr hv hT, Ch.refl X w, rfl, hL⟩).h)⟩
end
end Go.Proofs.YtgmghkakiocmjaaGreatDoor
namespace Go.Proofs.YtgmghkakiocmjaaGreatDoor
open Go Go.RowKit
set_option linter.unusedVariables false
/-! ### what the program's types are: found by their numbers -/
class UT (P : Program) (t : TypeId) (d : outParam TypeDesc) : Prop where
  h : P.underlying t = some d
class SzT (P : Program) (t : TypeId) (k : outParam Nat) : Prop where
  h : (P.info? t).map (·.size) = some k
class ByT (P : Program) (t : TypeId) (k : outParam Nat) : Prop where
  h : (P.info? t).map (·.bytes) = some k
def zeroOf (P : Program) (t : TypeId) : Option (Array Value) := ((P.info? t).bind (·.zero)).map (·.cells)
class ZrT (P : Program) (t : TypeId) (cs : outParam (Array Value)) : Prop where
  h : zeroOf P t = some cs
def flatT (P : Program) (t : TypeId) : Bool :=
  match P.underlying t with
  | some (.struct _) | some (.array _ _) | none => false
  | _ => true
class FlT (P : Program) (t : TypeId) : Prop where
  h : flatT P t = true
def rowT (P : Program) (t : TypeId) (k : Nat) : Bool :=
  (match P.underlying t with | some (.struct _) | some (.array _ _) => true | _ => false) && (match P.info? t with | some i => Nat.beq i.size k | none => false)
class RwT (P : Program) (t : TypeId) (k : outParam Nat) : Prop where
  h : rowT P t k = true
section
variable {P : Program} {n m d : Nat} {T : List (Nat × Value)} {X : List Nat} {w0 : World} {L : List Chunk}
  {ty t e : TypeId} {pos : String} {af : Array Edge} {gu : Option (Nat × Bool)} {u v v1 v2 : Value} {x y c : Operand} {dst : Option Tmp}
/-! ### what a cell holds -/
inductive Rd (X : List Nat) (w0 : World) (L : List Chunk) : Addr → Value → Prop
  | blk {g i : Nat} {cs : Array Value} {t : TypeId} {fr : Nat × Nat} {v : Value} (hm : Chunk.blk g (.cells cs t fr) ∈ L) (hv : cs[i]? = some v) : Rd X w0 L ⟨g, i, none⟩ v
  | sl {g i cap sz : Nat} {e : TypeId} {xs : List Value} {v : Value} (hm : Chunk.sl (some ⟨g, 0, none⟩) cap e sz xs ∈ L) (hv : xs[i]? = some v) : Rd X w0 L ⟨g, i, none⟩ v
  | old {p : Addr} {v : Value} (hc : w0.cell? p = some v) (hx : p.block ∉ X) : Rd X w0 L p v
def nth : List Value → Nat → Option Value
  | [], _ => none
  | v :: _, 0 => some v
  | _ :: l, i + 1 => nth l i
theorem nth_eq : ∀ (l : List Value) (i : Nat), nth l i = l[i]?
  | [], _ => rfl
  | _ :: _, 0 => rfl
  | _ :: l, i + 1 => by rw [nth, nth_eq l i]; rfl
theorem Rd.blkn {X : List Nat} {w0 : World} {L : List Chunk} {g i : Nat} {cs : Array Value} {t : TypeId} {fr : Nat × Nat} {v : Value} (hm : Chunk.blk g (.cells cs t fr) ∈ L) (hv : nth cs.toList i = some v) : Rd X w0 L ⟨g, i, none⟩ v :=
  .blk hm (by rw [nth_eq] at hv; simpa using hv)
theorem Rd.sln {X : List Nat} {w0 : World} {L : List Chunk} {g i cap sz : Nat} {e : TypeId} {xs : List Value} {v : Value} (hm : Chunk.sl (some ⟨g, 0, none⟩) cap e sz xs ∈ L) (hv : nth xs i = some v) : Rd X w0 L ⟨g, i, none⟩ v :=
  .sl hm (by rwa [nth_eq] at hv)
structure Old (w : World) (g o : Nat) (vs : List Value) : Prop where
  cell : ∀ j v, nth vs j = some v → w.cell? ⟨g, o + j, none⟩ = some v
theorem Rd.oldn {X : List Nat} {w0 : World} {L : List Chunk} {g o j : Nat} {vs : List Value} {v : Value} (h : Old w0 g o vs) (hv : nth vs j = some v) (hx : g ∉ X) : Rd X w0 L ⟨g, o + j, none⟩ v := .old (h.cell j v hv) hx
theorem Rd.old0 {X : List Nat} {w0 : World} {L : List Chunk} {g o : Nat} {vs : List Value} {v : Value} (h : Old w0 g o (v :: vs)) (hx : g ∉ X) : Rd X w0 L ⟨g, o, none⟩ v := .old (h.cell 0 v rfl) hx
theorem Rd.cell {X : List Nat} {w0 w : World} {L : List Chunk} {p : Addr} {v : Value} (h : Rd X w0 L p v) (hC : Ch X w0 w) (hL : Has L w) : w.cell? p = some v := by
  cases h with
  | blk hm hv => have h1 := hL.ok _ hm; simp only [Chunk.ok] at h1; simp [World.cell?, h1, hv]
  | @sl g i cap sz e xs v hm hv =>
    have h1 := hL.ok _ hm
    simp only [Chunk.ok] at h1
    rcases h1 with ⟨h1, _⟩ | ⟨g', cs, h1, h2, _, h3⟩
    · simp at h1
    · simp only [Option.some.injEq, Addr.mk.injEq, and_true] at h1
      subst h1
      rw [← h3, List.getElem?_take] at hv
      split at hv
      · simp [World.cell?, h2]; simpa using hv
      · simp at hv
  | old hc hx => exact hC.cell hc hx
inductive RdN (X : List Nat) (w0 : World) (L : List Chunk) : Addr → List Value → Prop
  | nil {p : Addr} : RdN X w0 L p []
  | cons {g o : Nat} {v : Value} {vs : List Value} (h : Rd X w0 L ⟨g, o, none⟩ v) (hs : RdN X w0 L ⟨g, o + 1, none⟩ vs) : RdN X w0 L ⟨g, o, none⟩ (v :: vs)
  | blk {g o : Nat} {cs : Array Value} {t : TypeId} {fr : Nat × Nat} {vs : List Value} (hm : Chunk.blk g (.cells cs t fr) ∈ L) (hv : (cs.toList.drop o).take vs.length = vs) : RdN X w0 L ⟨g, o, none⟩ vs
  | sl {g o cap sz : Nat} {e : TypeId} {xs vs : List Value} (hm : Chunk.sl (some ⟨g, 0, none⟩) cap e sz xs ∈ L) (hv : (xs.drop o).take vs.length = vs) : RdN X w0 L ⟨g, o, none⟩ vs
  | all {g o : Nat} {vs : List Value} (h : ∀ j v, vs[j]? = some v → Rd X w0 L ⟨g, o + j, none⟩ v) : RdN X w0 L ⟨g, o, none⟩ vs
theorem RdN.old {X : List Nat} {w0 : World} {L : List Chunk} {g o : Nat} {vs : List Value} (h : Old w0 g o vs) (hx : g ∉ X) : RdN X w0 L ⟨g, o, none⟩ vs := .all fun j v hj => .old (h.cell j v (by rwa [nth_eq])) hx
theorem RdN.rd {X : List Nat} {w0 : World} {L : List Chunk} {p : Addr} {vs : List Value} (h : RdN X w0 L p vs) : ∀ j v, vs[j]? = some v → p.spot = none ∧ Rd X w0 L ⟨p.block, p.off + j, none⟩ v := by
  induction h with
  | nil => intro j v h; simp at h
  | cons h hs ih =>
    intro j v hj
    cases j with
    | zero => simp at hj; subst hj; exact ⟨rfl, h⟩
    | succ j => have := ih j v (by simpa using hj); refine ⟨rfl, ?_⟩; have h2 := this.2; simp only at h2 ⊢; rwa [Nat.add_assoc, Nat.add_comm 1 j] at h2
  | @blk g o cs t fr vs hm hv =>
    intro j v hj
    refine ⟨rfl, .blk hm ?_⟩
    rw [← hv, List.getElem?_take] at hj
    split at hj
    · simpa using hj
    · simp at hj
  | @sl g o cap sz e xs vs hm hv =>
    intro j v hj
    refine ⟨rfl, .sl hm ?_⟩
    rw [← hv, List.getElem?_take] at hj
    split at hj
    · simpa using hj
    · simp at hj
  | all h => exact fun j v hj => ⟨rfl, h j v hj⟩
theorem RdN.cells {X : List Nat} {w0 w : World} {L : List Chunk} {p : Addr} {vs : List Value} (h : RdN X w0 L p vs) (hC : Ch X w0 w) (hL : Has L w) : ∀ j v, vs[j]? = some v → w.cell? (p.add j) = some v := by
  intro j v hj
  obtain ⟨h1, h2⟩ := h.rd j v hj
  have e : p.add j = ⟨p.block, p.off + j, none⟩ := by
    obtain ⟨b, o, s⟩ := p
    simp only at h1
    subst h1
    exact Addr.add_mid b o j
  rw [e]
  exact h2.cell hC hL
theorem Has.old {L : List Chunk} {w : World} (hL : Has L w) {g o k : Nat} {cs : Array Value} {t : TypeId} {fr : Nat × Nat} {vs : List Value} (hm : Chunk.blk g (.cells cs t fr) ∈ L) (hv : (cs.toList.drop o).take k = vs) : Old w g o vs := ⟨fun j v hj => by
  have h1 := hL.ok _ hm
  simp only [Chunk.ok] at h1
  rw [nth_eq, ← hv, List.getElem?_take] at hj
  split at hj
  · simp [World.cell?, h1]; simpa using hj
  · simp at hj⟩
theorem Has.old_sl {L : List Chunk} {w : World} (hL : Has L w) {g o k cap sz : Nat} {e : TypeId} {xs vs : List Value} (hm : Chunk.sl (some ⟨g, 0, none⟩) cap e sz xs ∈ L) (hv : (xs.drop o).take k = vs) : Old w g o vs := ⟨fun j v hj => by
  have h1 : Rd [] w L ⟨g, o + j, none⟩ v := .sl hm (by
    rw [nth_eq, ← hv, List.getElem?_take] at hj
    split at hj
    · simpa using hj
    · simp at hj)
  exact h1.cell (Ch.refl _ _) hL⟩
theorem Old.ch {X : List Nat} {w w' : World} {g o : Nat} {vs : List Value} (h : Old w g o vs) (hC : Ch X w w') (hx : g ∉ X) : Old w' g o vs := ⟨fun j v hj => hC.cell (h.cell j v hj) hx⟩
/-! ### plain operations -/
theorem q_move (hx : ev T x = some v) : Qt P X w0 ⟨dst, .move x, ty, pos, af, gu⟩ T L v := by
  refine ⟨?_⟩
  intro n a w hA hC hL
  simp [execOp, hA.eval hx]
theorem q_assign (hx : ev T x = some v) : Qt P X w0 ⟨dst, .assign x, ty, pos, af, gu⟩ T L v := by
  refine ⟨?_⟩
  intro n a w hA hC hL
  simp [execOp, hA.eval hx]
theorem q_pick_t (hc : ev T c = some (.bool true)) (hx : ev T x = some v) : Qt P X w0 ⟨dst, .pick c x y, ty, pos, af, gu⟩ T L v := by
  refine ⟨?_⟩
  intro n a w hA hC hL
  simp [execOp, hA.eval hx, hA.eval hc, asBool]
theorem q_pick_f (hc : ev T c = some (.bool false)) (hy : ev T y = some v) : Qt P X w0 ⟨dst, .pick c x y, ty, pos, af, gu⟩ T L v := by
  refine ⟨?_⟩
  intro n a w hA hC hL
  simp [execOp, hA.eval hy, hA.eval hc, asBool]
theorem q_extract {i : Nat} {vs : Array Value} (hx : ev T x = some (.tuple vs)) (hv : vs[i]? = some v) : Qt P X w0 ⟨dst, .extract x i, ty, pos, af, gu⟩ T L v := by
  refine ⟨?_⟩
  intro n a w hA hC hL
  simp [execOp, hA.eval hx, Instr.extract, hv]
theorem q_nilCheck {p : Addr} (hx : ev T x = some (.pointer (some p))) : Qt P X w0 ⟨dst, .nilCheck x, ty, pos, af, gu⟩ T L (.pointer (some p)) := by
  refine ⟨?_⟩
  intro n a w hA hC hL
  simp [execOp, hA.eval hx]
/-! ### numbers -/
theorem q_bin_int {op : BinOp} {k k' : IntKind} {a b : Int} {ty2 : TypeId} (hx : ev T x = some (.int k a)) (hy : ev T y = some (.int k' b)) (h : ∀ w, (binOp op t (.int k a) (.int k' b)).run P w = .ok v w) : Qt P X w0 ⟨dst, .binOp op t x y ty2, ty, pos, af, gu⟩ T L v := by
  refine ⟨?_⟩
  intro n ac w hA hC hL
  have hg : (eqGuard op t x y (.int k a) (.int k' b)).run P w = .ok () w := by unfold eqGuard; split <;> simp_all
  simp only [execOp, Sem.run_bind, hA.eval hx, hA.eval hy, hg, h, Result.andThen_ok, Sem.run_pure]
section
variable {a b : Int} {ty2 : TypeId} {k : IntKind}
theorem q_add64 (hx : ev T x = some (.int .i64 a)) (hy : ev T y = some (.int .i64 b)) (h : -9223372036854775808 ≤ a + b ∧ a + b ≤ 9223372036854775807) {r : Int} (hr : a + b = r) : Qt P X w0 ⟨dst, .binOp .add t x y ty2, ty, pos, af, gu⟩ T L (.int .i64 r) :=
  hr ▸   q_bin_int hx hy fun w => by simp [binOp, Op.intArith, IntKind.wrap_i64]; omega
theorem q_sub64 (hx : ev T x = some (.int .i64 a)) (hy : ev T y = some (.int .i64 b)) (h : -9223372036854775808 ≤ a - b ∧ a - b ≤ 9223372036854775807) {r : Int} (hr : a - b = r) : Qt P X w0 ⟨dst, .binOp .sub t x y ty2, ty, pos, af, gu⟩ T L (.int .i64 r) :=
  hr ▸   q_bin_int hx hy fun w => by simp [binOp, Op.intArith, IntKind.wrap_i64]; omega
theorem q_mul64 (hx : ev T x = some (.int .i64 a)) (hy : ev T y = some (.int .i64 b)) (h : -9223372036854775808 ≤ a * b ∧ a * b ≤ 9223372036854775807) {r : Int} (hr : a * b = r) : Qt P X w0 ⟨dst, .binOp .mul t x y ty2, ty, pos, af, gu⟩ T L (.int .i64 r) :=
  hr ▸   q_bin_int hx hy fun w => by
    simp [binOp, Op.intArith, IntKind.wrap_i64]
    generalize a * b = r at h ⊢
    omega
theorem q_addU (hx : ev T x = some (.int .u64 a)) (hy : ev T y = some (.int .u64 b)) : Qt P X w0 ⟨dst, .binOp .add t x y ty2, ty, pos, af, gu⟩ T L (.int .u64 ((a + b) % 18446744073709551616)) :=
  q_bin_int hx hy fun w => by simp [binOp, Op.intArith, IntKind.wrap_u64]
theorem q_quo (hx : ev T x = some (.int k a)) (hy : ev T y = some (.int k b)) (h0 : 0 ≤ a) (hb : 0 < b) (hw : k.wrap (a / b) = a / b) : Qt P X w0 ⟨dst, .binOp .quo t x y ty2, ty, pos, af, gu⟩ T L (.int k (a / b)) :=
  q_bin_int hx hy fun w => by
    have e : ¬ b = 0 := by omega
    simp [binOp, Op.intDiv, e, Int.tdiv_eq_ediv_of_nonneg h0, hw]
theorem q_rem (hx : ev T x = some (.int k a)) (hy : ev T y = some (.int k b)) (h0 : 0 ≤ a) (hb : 0 < b) : Qt P X w0 ⟨dst, .binOp .rem t x y ty2, ty, pos, af, gu⟩ T L (.int k (a % b)) :=
  q_bin_int hx hy fun w => by
    have e : ¬ b = 0 := by omega
    simp [binOp, Op.intDiv, e, Int.tmod_eq_emod_of_nonneg h0]
theorem q_or (hx : ev T x = some (.int k a)) (hy : ev T y = some (.int k b)) : Qt P X w0 ⟨dst, .binOp .or t x y ty2, ty, pos, af, gu⟩ T L (.int k (bits .or k a b)) :=
  q_bin_int hx hy fun w => by simp [binOp, Op.intBits, bits]
theorem q_shl {k' : IntKind} (hx : ev T x = some (.int k a)) (hy : ev T y = some (.int k' b)) (h0 : 0 ≤ b) (hb : b.toNat ≤ k.bits) : Qt P X w0 ⟨dst, .binOp .shl t x y ty2, ty, pos, af, gu⟩ T L (.int k (k.wrap (a * 2 ^ b.toNat))) :=
  q_bin_int hx hy fun w => by
    have e : ¬ b < 0 := by omega
    simp [binOp, Op.shift, e, Nat.min_eq_left hb]
theorem q_shr {k' : IntKind} (hx : ev T x = some (.int k a)) (hy : ev T y = some (.int k' b)) (h0 : 0 ≤ b) (hb : b.toNat ≤ k.bits) : Qt P X w0 ⟨dst, .binOp .shr t x y ty2, ty, pos, af, gu⟩ T L (.int k (a / 2 ^ b.toNat)) :=
  q_bin_int hx hy fun w => by
    have e : ¬ b < 0 := by omega
    have e2 : a.fdiv (2 ^ b.toNat) = a / 2 ^ b.toNat := Int.fdiv_eq_ediv_of_nonneg a (Int.le_of_lt (Int.pow_pos (by decide)))
    simp [binOp, Op.shift, e, Nat.min_eq_left hb, e2]
theorem q_lss (hx : ev T x = some (.int k a)) (hy : ev T y = some (.int k b)) : Qt P X w0 ⟨dst, .binOp .lss t x y ty2, ty, pos, af, gu⟩ T L (.bool (decide (a < b))) :=
  q_bin_int hx hy fun w => by simp [binOp, Op.intCmp]
theorem q_leq (hx : ev T x = some (.int k a)) (hy : ev T y = some (.int k b)) : Qt P X w0 ⟨dst, .binOp .leq t x y ty2, ty, pos, af, gu⟩ T L (.bool (decide (a ≤ b))) :=
  q_bin_int hx hy fun w => by simp [binOp, Op.intCmp]
theorem q_gtr (hx : ev T x = some (.int k a)) (hy : ev T y = some (.int k b)) : Qt P X w0 ⟨dst, .binOp .gtr t x y ty2, ty, pos, af, gu⟩ T L (.bool (decide (b < a))) :=
  q_bin_int hx hy fun w => by simp [binOp, Op.intCmp]
theorem q_geq (hx : ev T x = some (.int k a)) (hy : ev T y = some (.int k b)) : Qt P X w0 ⟨dst, .binOp .geq t x y ty2, ty, pos, af, gu⟩ T L (.bool (decide (b ≤ a))) :=
  q_bin_int hx hy fun w => by simp [binOp, Op.intCmp]
theorem q_eql (hx : ev T x = some (.int k a)) (hy : ev T y = some (.int k b)) : Qt P X w0 ⟨dst, .binOp .eql t x y ty2, ty, pos, af, gu⟩ T L (.bool (a == b)) :=
  q_bin_int hx hy fun w => by simp [binOp, Op.intCmp]
theorem q_neq (hx : ev T x = some (.int k a)) (hy : ev T y = some (.int k b)) : Qt P X w0 ⟨dst, .binOp .neq t x y ty2, ty, pos, af, gu⟩ T L (.bool (a != b)) :=
  q_bin_int hx hy fun w => by simp [binOp, Op.intCmp]
end
theorem q_not {b : Bool} (hx : ev T x = some (.bool b)) : Qt P X w0 ⟨dst, .unOp .not t x, ty, pos, af, gu⟩ T L (.bool (!b)) := by
  refine ⟨?_⟩
  intro n a w hA hC hL
  simp [execOp, hA.eval hx, Op.unary]
theorem q_bin_val {op : BinOp} {ty2 : TypeId} (hx : ev T x = some v1) (hy : ev T y = some v2) (hg : ∀ w, (eqGuard op t x y v1 v2).run P w = .ok () w) (h : ∀ w, (binOp op t v1 v2).run P w = .ok v w) : Qt P X w0 ⟨dst, .binOp op t x y ty2, ty, pos, af, gu⟩ T L v := by
  refine ⟨?_⟩
  intro n ac w hA hC hL
  simp only [execOp, Sem.run_bind, hA.eval hx, hA.eval hy, hg, h, Result.andThen_ok, Sem.run_pure]
theorem q_neq_bool {a b : Bool} {ty2 : TypeId} (hx : ev T x = some (.bool a)) (hy : ev T y = some (.bool b)) [hu : UT P t .bool] : Qt P X w0 ⟨dst, .binOp .neq t x y ty2, ty, pos, af, gu⟩ T L (.bool (a != b)) :=
  q_bin_val hx hy (fun w => by simp [eqGuard]) fun w => by rw [show binOp .neq t (.bool a) (.bool b) = (do pure (.bool (!(← Op.equal t (.bool a) (.bool b))))) from rfl]; simp only [Sem.run_bind, Op.equal, show Op.maxDepth = 9999 + 1 from rfl, run_equalIn_bool' (P := P) w 9999 t a b hu.h, Result.andThen_ok, Sem.run_pure, bne]
theorem q_neq_str {a b : ByteArray} {ty2 : TypeId} (hx : ev T x = some (.string a)) (hy : ev T y = some (.string b)) : Qt P X w0 ⟨dst, .binOp .neq t x y ty2, ty, pos, af, gu⟩ T L (.bool (!(a.toList == b.toList))) :=
  q_bin_val hx hy (fun w => by simp [eqGuard]) fun w => by simp [binOp, Op.stringOp]
/-! ### conversions -/
theorem q_conv {k k' : IntKind} {a : Int} {src : TypeId} (hx : ev T x = some (.int k a)) {ds : TypeDesc} [hs : UT P src ds] [hu : UT P t (.int k')] : Qt P X w0 ⟨dst, .convert src t x, ty, pos, af, gu⟩ T L (.int k' (k'.wrap a)) := by
  refine ⟨?_⟩
  intro n ac w hA hC hL
  simp [execOp, hA.eval hx, convert, run_underlying hs.h, run_underlying hu.h, Conv.intToInt]
section
variable {a : Int} {k : IntKind} {src : TypeId} {ds : TypeDesc}
theorem q_conv_i64 (hx : ev T x = some (.int k a)) [hs : UT P src ds] [hu : UT P t (.int .i64)] (h0 : -9223372036854775808 ≤ a) (h1 : a ≤ 9223372036854775807) : Qt P X w0 ⟨dst, .convert src t x, ty, pos, af, gu⟩ T L (.int .i64 a) :=
  Qt.cast (by rw [IntKind.wrap_i64]; congr 1; omega) (q_conv hx)
theorem q_conv8 (hx : ev T x = some (.int k a)) [hs : UT P src ds] [hu : UT P t (.int .u8)] : Qt P X w0 ⟨dst, .convert src t x, ty, pos, af, gu⟩ T L (.int .u8 (a % 256)) :=
  Qt.cast (by rw [IntKind.wrap_u8']) (q_conv hx)
theorem q_convU (hx : ev T x = some (.int k a)) [hs : UT P src ds] [hu : UT P t (.int .u64)] : Qt P X w0 ⟨dst, .convert src t x, ty, pos, af, gu⟩ T L (.int .u64 (a % 18446744073709551616)) :=
  Qt.cast (by rw [IntKind.wrap_u64]) (q_conv hx)
end
section
variable {a b : Int} {ty2 : TypeId} {k' : IntKind}
theorem q_shlU (hx : ev T x = some (.int .u64 a)) (hy : ev T y = some (.int k' b)) (h0 : 0 ≤ b) (hb : b ≤ 64) : Qt P X w0 ⟨dst, .binOp .shl t x y ty2, ty, pos, af, gu⟩ T L (.int .u64 (a * 2 ^ b.toNat % 18446744073709551616)) :=
  Qt.cast (by rw [IntKind.wrap_u64]) (q_shl hx hy h0 (by show _ ≤ 64; omega))
end
/-! ### addresses -/
theorem q_fieldAddr {fs : Array Field} {f : Field} {i : Nat} {g o : Nat} (hx : ev T x = some (.pointer (some ⟨g, o, none⟩))) [hu : UT P t (.struct fs)] (hf : fs[i]? = some f) {k : Nat} [hz : SzT P f.type k] (hp : Nat.beq k 0 = false) :
    Qt P X w0 ⟨dst, .fieldAddr t x i, ty, pos, af, gu⟩ T L (.pointer (some ⟨g, o + f.offset, none⟩)) := by
  refine ⟨?_⟩
  intro n ac w hA hC hL
  have hz := hz.h
  rw [Option.map_eq_some_iff] at hz
  obtain ⟨inf, h2, rfl⟩ := hz
  simp [execOp, hA.eval hx, Instr.fieldAt, run_underlying hu.h, hf, Instr.sureAddr, fieldPlace, sizeOf, typeInfo, h2, Nat.ne_of_beq_eq_false hp, Addr.add_mid]
theorem q_indexAddr_arr {len : Nat} {g o sz : Nat} {k : IntKind} {i : Int} (hx : ev T x = some (.pointer (some ⟨g, o, none⟩))) (hy : ev T y = some (.int k i)) [hu : UT P t (.array len e)] [hs : SzT P e sz] (h0 : 0 ≤ i) (h1 : i < len) {o' : Nat} (ho : o + i.toNat * sz = o') :
    Qt P X w0 ⟨dst, .indexAddr t x y, ty, pos, af, gu⟩ T L (.pointer (some ⟨g, o', none⟩)) := by
  subst ho
  refine ⟨?_⟩
  intro n ac w hA hC hL
  have hs := hs.h
  rw [Option.map_eq_some_iff] at hs
  obtain ⟨inf, h2, rfl⟩ := hs
  simp [execOp, hA.eval hx, hA.eval hy, Instr.indexAt, asIntOf, run_underlying hu.h, Instr.sureAddr, h0, h1, sizeOf, typeInfo, h2, Addr.add_mid]
theorem q_indexAddr_sl {len cap : Nat} {g o sz : Nat} {k : IntKind} {i : Int} (hx : ev T x = some (.slice (some ⟨g, o, none⟩) len cap)) (hy : ev T y = some (.int k i)) [hu : UT P t (.slice e)] [hs : SzT P e sz] (h0 : 0 ≤ i) (h1 : i < len) {o' : Nat} (ho : o + i.toNat * sz = o') :
    Qt P X w0 ⟨dst, .indexAddr t x y, ty, pos, af, gu⟩ T L (.pointer (some ⟨g, o', none⟩)) := by
  subst ho
  refine ⟨?_⟩
  intro n ac w hA hC hL
  have hs := hs.h
  rw [Option.map_eq_some_iff] at hs
  obtain ⟨inf, h2, rfl⟩ := hs
  simp [execOp, hA.eval hx, hA.eval hy, Instr.indexAt, asIntOf, run_underlying hu.h, h0, h1, sizeOf, typeInfo, h2, Addr.add_mid]
/-! ### loads -/
theorem run_isAgg_flat {w : World} (h : flatT P t = true) : (isAgg t).run P w = .ok false w := by
  unfold flatT at h
  cases hu : P.underlying t with
  | none => simp [hu] at h
  | some d => cases d <;> simp [hu] at h <;> simp [isAgg, run_underlying hu]
theorem q_load {p : Addr} (hx : ev T x = some (.pointer (some p))) [hf : FlT P t] (hr : Rd X w0 L p v) : Qt P X w0 ⟨dst, .load t x, ty, pos, af, gu⟩ T L v := by
  refine ⟨?_⟩
  intro n ac w hA hC hL
  simp [execOp, hA.eval hx, Instr.loadAt, Instr.sureAddr, loadVar, run_isAgg_flat hf.h, hr.cell hC hL]
theorem rowT_spec {k : Nat} (h : rowT P t k = true) : (∃ d, P.underlying t = some d ∧ d.isRow = true) ∧ (P.info? t).map (·.size) = some k := by
  unfold rowT at h
  simp only [Bool.and_eq_true] at h
  obtain ⟨h1, h2⟩ := h
  constructor
  · split at h1
    · exact ⟨_, ‹_›, rfl⟩
    · exact ⟨_, ‹_›, rfl⟩
    · simp at h1
  · split at h2
    · rename_i i hi; rw [hi]; simp [Nat.eq_of_beq_eq_true h2]
    · simp at h2
theorem q_load_row {g o k : Nat} {vs : List Value} (hx : ev T x = some (.pointer (some ⟨g, o, none⟩))) [hf : RwT P t k] (hr : RdN X w0 L ⟨g, o, none⟩ vs) (hl : vs.length = k) : Qt P X w0 ⟨dst, .load t x, ty, pos, af, gu⟩ T L (.agg vs.toArray) := by
  refine ⟨?_⟩
  intro n ac w hA hC hL
  obtain ⟨⟨de, hu, hd⟩, hi⟩ := rowT_spec hf.h
  subst hl
  have h1 : w.rangeAt g o vs := fun j v hj => by have := hr.cells hC hL j v hj; rwa [Addr.add_mid] at this
  simp only [execOp, hA.eval hx, Sem.run_bind, run_loadAt_mid w g o t vs de h1 hu hd hi, Result.andThen_ok, Sem.run_pure]
theorem q_load_blk {g k : Nat} {cs : Array Value} {t' : TypeId} {fr : Nat × Nat} (hx : ev T x = some (.pointer (some ⟨g, 0, none⟩))) [hf : RwT P t k] (hm : Chunk.blk g (.cells cs t' fr) ∈ L) (hl : cs.size = k) : Qt P X w0 ⟨dst, .load t x, ty, pos, af, gu⟩ T L (.agg cs) := by
  have := q_load_row (P := P) (t := t) (w0 := w0) (X := X) (ty := ty) (pos := pos) (af := af) (gu := gu) (dst := dst) hx (.blk (vs := cs.toList) hm (by rw [List.drop_zero, List.take_length])) (by simpa using hl)
  simpa using this
/-! ### slices and builtins -/
theorem q_call_builtin {bi : Builtin} {xs : List Operand} {ats : Array TypeId} {vs : List Value} (hargs : evs T xs = some vs) (h : ∀ w, (builtin bi ats ty ((xs.map fun | .const _ => true | _ => false).toArray) vs.toArray).run P w = .ok (.value v) w) :
    Qt P X w0 ⟨dst, .call { callee := .builtin bi, args := xs.toArray, argTypes := ats }, ty, pos, af, gu⟩ T L v := by
  refine ⟨?_⟩
  intro n ac w hA hC hL
  simp only [execOp, resolve, Sem.run_bind, Sem.run_pure, Result.andThen_ok, invoke, List.map_toArray, hA.evals hargs]
  exact h w
theorem q_len_sl {b : Option Addr} {len cap : Nat} (hx : ev T x = some (.slice b len cap)) [hu : UT P t (.slice e)] : Qt P X w0 ⟨dst, .call { callee := .builtin .len, args := #[x], argTypes := #[t] }, ty, pos, af, gu⟩ T L (.int .i64 len) :=
  q_call_builtin (xs := [x]) (vs := [.slice b len cap]) (by simp [evs, hx]) fun w => by simp [builtin, Builtin.len_, run_underlying hu.h, goInt]
theorem q_cap_sl {b : Option Addr} {len cap : Nat} (hx : ev T x = some (.slice b len cap)) [hu : UT P t (.slice e)] : Qt P X w0 ⟨dst, .call { callee := .builtin .cap, args := #[x], argTypes := #[t] }, ty, pos, af, gu⟩ T L (.int .i64 cap) :=
  q_call_builtin (xs := [x]) (vs := [.slice b len cap]) (by simp [evs, hx]) fun w => by simp [builtin, Builtin.cap_, run_underlying hu.h, goInt]
theorem q_min {k k' : IntKind} {a b : Int} {ats : Array TypeId} (hx : ev T x = some (.int k a)) (hy : ev T y = some (.int k' b)) : Qt P X w0 ⟨dst, .call { callee := .builtin .min, args := #[x, y], argTypes := ats }, ty, pos, af, gu⟩ T L (.int k (if b < a then b else a)) :=
  q_call_builtin (xs := [x, y]) (vs := [.int k a, .int k' b]) (by simp [evs, hx, hy]) fun w => by simp [builtin, Builtin.min_, Builtin.min2]
theorem q_max {k k' : IntKind} {a b : Int} {ats : Array TypeId} (hx : ev T x = some (.int k a)) (hy : ev T y = some (.int k' b)) : Qt P X w0 ⟨dst, .call { callee := .builtin .max, args := #[x, y], argTypes := ats }, ty, pos, af, gu⟩ T L (.int k (if a < b then b else a)) :=
  q_call_builtin (xs := [x, y]) (vs := [.int k a, .int k' b]) (by simp [evs, hx, hy]) fun w => by simp [builtin, Builtin.max_, Builtin.max2]
def bnd (T : List (Nat × Value)) (dflt : Nat) : Option Operand → Option Int
  | none => some dflt
  | some x => match ev T x with
    | some (.int _ i) => some i
    | _ => none
theorem q_slice {lo hi : Option Operand} {b : Option Addr} {len cap sz : Nat} {l h : Int} (hx : ev T x = some (.slice b len cap)) (hlo : bnd T 0 lo = some l) (hhi : bnd T len hi = some h) [hu : UT P t (.slice e)] [hs : SzT P e sz]
    (h0 : 0 ≤ l) (h1 : l ≤ h) (h2 : h ≤ cap) (hlc : len ≤ cap) {b' : Option Addr} {len' cap' : Nat} (hb' : (if cap = l.toNat then b else b.map (·.add (l.toNat * sz))) = b') (hlen : h.toNat - l.toNat = len') (hcap : cap - l.toNat = cap') : Qt P X w0 ⟨dst, .slice t x lo hi none, ty, pos, af, gu⟩ T L (.slice b' len' cap') := by
  subst hb'; subst hlen; subst hcap
  refine ⟨?_⟩
  intro n ac w hA hC hL
  have hs := hs.h
  rw [Option.map_eq_some_iff] at hs
  obtain ⟨inf, h3, rfl⟩ := hs
  have hb : (Instr.sliceBounds true len cap (lo.map ac.eval) (hi.map ac.eval) none).run P w = .ok (l.toNat, h.toNat, cap) w := by
    have key : ∀ (z : Operand) (i : Int), bnd T 0 (some z) = some i → ∃ k, ac.eval z = .int k i := by
      intro z i hz
      simp only [bnd] at hz
      split at hz
      · rename_i k j hj; simp at hz; subst hz; exact ⟨k, hA.eval hj⟩
      · simp at hz
    have hh : (match hi.map ac.eval with | some v => Instr.sliceBound v cap .sliceAcap | none => pure len : Sem Nat).run P w = .ok h.toNat w := by
      cases hi with
      | none => simp [bnd] at hhi; subst hhi; simp
      | some z => obtain ⟨k, hz⟩ := key z h hhi; simp [hz, Instr.sliceBound, asIntOf, show 0 ≤ h by omega, h2]
    have hl : (match lo.map ac.eval with | some v => Instr.sliceBound v h.toNat .sliceB | none => pure 0 : Sem Nat).run P w = .ok l.toNat w := by
      cases lo with
      | none => simp [bnd] at hlo; subst hlo; simp
      | some z => obtain ⟨k, hz⟩ := key z l hlo; simp only [Option.map_some, hz]; exact run_sliceBound (P := P) (w := w) k l h.toNat .sliceB h0 (by omega)
    unfold Instr.sliceBounds
    simp only [Sem.run_bind, Sem.run_pure, Result.andThen_ok, Option.isSome_none, if_true, Bool.false_eq_true, if_false]
    cases hi <;> cases lo <;> simp only [Option.map] at hh hl ⊢ <;> simp_all
  simp only [execOp, hA.eval hx, Instr.sliceAt, Sem.run_bind, run_underlying hu.h, Result.andThen_ok, Instr.slice, hb, Option.map_none, sizeOf, typeInfo, program, Sem.run, h3, Sem.run_pure]
theorem q_slice_arr {lo hi : Option Operand} {g o k sz : Nat} {l h : Int} (hx : ev T x = some (.pointer (some ⟨g, o, none⟩))) (hlo : bnd T 0 lo = some l) (hhi : bnd T k hi = some h) [hu : UT P t (.array k e)] [hs : SzT P e sz]
    (h0 : 0 ≤ l) (h1 : l ≤ h) (h2 : h ≤ k) {o' len' cap' : Nat} (ho : (if k = l.toNat then o else o + l.toNat * sz) = o') (hlen : h.toNat - l.toNat = len') (hcap : k - l.toNat = cap') : Qt P X w0 ⟨dst, .slice t x lo hi none, ty, pos, af, gu⟩ T L (.slice (some ⟨g, o', none⟩) len' cap') := by
  subst ho; subst hlen; subst hcap
  refine ⟨?_⟩
  intro n ac w hA hC hL
  have hs := hs.h
  rw [Option.map_eq_some_iff] at hs
  obtain ⟨inf, h3, rfl⟩ := hs
  have hb : (Instr.sliceBounds false k k (lo.map ac.eval) (hi.map ac.eval) none).run P w = .ok (l.toNat, h.toNat, k) w := by
    have key : ∀ (z : Operand) (i : Int), bnd T 0 (some z) = some i → ∃ k, ac.eval z = .int k i := by
      intro z i hz
      simp only [bnd] at hz
      split at hz
      · rename_i k j hj; simp at hz; subst hz; exact ⟨k, hA.eval hj⟩
      · simp at hz
    have hh : (match hi.map ac.eval with | some v => Instr.sliceBound v k .sliceAlen | none => pure k : Sem Nat).run P w = .ok h.toNat w := by
      cases hi with
      | none => simp [bnd] at hhi; subst hhi; simp
      | some z => obtain ⟨k, hz⟩ := key z h hhi; simp [hz, Instr.sliceBound, asIntOf, show 0 ≤ h by omega, h2]
    have hl : (match lo.map ac.eval with | some v => Instr.sliceBound v h.toNat .sliceB | none => pure 0 : Sem Nat).run P w = .ok l.toNat w := by
      cases lo with
      | none => simp [bnd] at hlo; subst hlo; simp
      | some z => obtain ⟨k, hz⟩ := key z l hlo; simp only [Option.map_some, hz]; exact run_sliceBound (P := P) (w := w) k l h.toNat .sliceB h0 (by omega)
    unfold Instr.sliceBounds
    simp only [Sem.run_bind, Sem.run_pure, Result.andThen_ok, Option.isSome_none, Bool.false_eq_true, if_false]
    cases hi <;> cases lo <;> simp only [Option.map] at hh hl ⊢ <;> simp_all
  simp only [execOp, hA.eval hx, Instr.sliceAt, Sem.run_bind, run_underlying hu.h, Result.andThen_ok, hb, Instr.sureAddr, Option.map_none, sizeOf, typeInfo, program, Sem.run, h3, Sem.run_pure, Addr.add_mid]
  by_cases hk : k = l.toNat <;> simp [hk]
/-! ### results -/
inductive Res (P : Program) (X : List Nat) (w0 : World) (T : List (Nat × Value)) (L : List Chunk) : List ResultVar → List Value → Prop
  | nil : Res P X w0 T L [] []
  | tmp {t : Tmp} {v : Value} {rs : List ResultVar} {vs : List Value} (h : lks T t = some v) (hs : Res P X w0 T L rs vs) : Res P X w0 T L (.tmp t :: rs) (v :: vs)
  | cell {t : Tmp} {ty : TypeId} {p : Addr} {v : Value} {rs : List ResultVar} {vs : List Value} (h : lks T t = some (.pointer (some p))) [hf : FlT P ty] (hr : Rd X w0 L p v) (hs : Res P X w0 T L rs vs) : Res P X w0 T L (.cell t ty :: rs) (v :: vs)
  | row {t : Tmp} {ty : TypeId} {g k : Nat} {cs : Array Value} {t' : TypeId} {fr : Nat × Nat} {rs : List ResultVar} {vs : List Value} (h : lks T t = some (.pointer (some ⟨g, 0, none⟩))) [hf : RwT P ty k] (hm : Chunk.blk g (.cells cs t' fr) ∈ L) (hl : cs.size = k) (hs : Res P X w0 T L rs vs) : Res P X w0 T L (.cell t ty :: rs) (.agg cs :: vs)
def vval : List Value → Value
  | [v] => v
  | vs => .tuple vs.toArray
theorem Res.run {rs : List ResultVar} {vs : List Value} (h : Res P X w0 T L rs vs) {n : Nat} {a : Act} {w : World} (hA : Agr n T a) (hC : Ch X w0 w) (hL : Has L w) :
    (rs.mapM fun (r : ResultVar) => (match r with | .tmp t => pure (a.tmps.getD t undef) | .cell q t => do loadVar t (← asAddr (a.tmps.getD q undef)) : Sem Value)).run P w = .ok vs w := by
  have key : ∀ t v, lks T t = some v → a.tmps.getD t undef = v := fun t v h => by have := hA.slot t v h; simp [this]
  induction h with
  | nil => simp
  | tmp h hs ih => rw [List.mapM_cons]; simp only [Sem.run_bind, Sem.run_pure, Result.andThen_ok, key _ _ h, ih]
  | @cell t ty p v rs vs h hf hr hs ih =>
    have h2 : (loadVar ty p).run P w = .ok v w := by simp [loadVar, run_isAgg_flat hf.h, hr.cell hC hL]
    have h3 : (asAddr (.pointer (some p))).run P w = .ok p w := rfl
    rw [List.mapM_cons]; simp only [Sem.run_bind, Sem.run_pure, Result.andThen_ok, key _ _ h, h3, h2, ih]
  | @row t ty g k cs t' fr rs vs h hf hm hl hs ih =>
    rw [List.mapM_cons]
    obtain ⟨⟨de, hu, hd⟩, hi⟩ := rowT_spec hf.h
    have h1 := hL.ok _ hm
    simp only [Chunk.ok] at h1
    have h2 := run_loadVar_row (P := P) w g t' ty cs fr de h1 hu (by cases de <;> simp_all [TypeDesc.isRow]) (by rw [hl]; exact hi)
    have h3 : (asAddr (.pointer (some ⟨g, 0, none⟩))).run P w = .ok ⟨g, 0, none⟩ w := rfl
    simp only [Sem.run_bind, Sem.run_pure, Result.andThen_ok, key _ _ h, h3, h2, ih]
theorem results_of {fn : Func} {rs : List ResultVar} {vs : List Value} (hfn : fn.results = rs.toArray) (h : Res P X w0 T L rs vs) {n : Nat} {a : Act} {w : World} (hA : Agr n T a) (hC : Ch X w0 w) (hL : Has L w) : (results fn a.tmps).run P w = .ok (vval vs) w := by
  unfold results
  rw [hfn]
  have hr := h.run hA hC hL
  simp only [Sem.run_bind, List.mapM_toArray]
  simp only [Sem.run_map]
  erw [hr]
  cases vs with
  | nil => simp [vval]
  | cons v vs => cases vs <;> simp [vval]
theorem new_nil {k : Nat} : ∀ g ∈ feet ([] : List Chunk), g ∈ X ∨ k ≤ g := by simp [feet]
theorem new_blk {k g : Nat} {o : Obj} (h : g ∈ X ∨ k ≤ g) (hs : ∀ g ∈ feet L, g ∈ X ∨ k ≤ g) : ∀ g' ∈ feet (.blk g o :: L), g' ∈ X ∨ k ≤ g' := by
  intro g' hg
  simp only [feet, List.flatMap_cons, Chunk.foot, List.mem_append, List.mem_singleton] at hg
  exact hg.elim (fun e => e ▸ h) (fun h' => hs g' h')
theorem new_sl {k : Nat} {b : Option Addr} {cap sz : Nat} {xs : List Value} (h : ∀ g ∈ (Chunk.sl b cap e sz xs).foot, g ∈ X ∨ k ≤ g) (hs : ∀ g ∈ feet L, g ∈ X ∨ k ≤ g) : ∀ g' ∈ feet (.sl b cap e sz xs :: L), g' ∈ X ∨ k ≤ g' := by
  intro g' hg
  simp only [feet, List.flatMap_cons, List.mem_append] at hg
  exact hg.elim (fun h' => h g' h') (fun h' => hs g' h')
variable {α : Type} {V : α → Value} {N : α → List Chunk} {Φ : α → Prop} {fn : Func} {rs : List ResultVar} {vs : List Value}
theorem r_ret (z : α) (hd0 : dfs T = []) (hfn : fn.results = rs.toArray) (hR : Res P X w0 T L rs vs) (hv : vval vs = V z) (hN : (N z).Sublist L) (hnew : ∀ g ∈ feet (N z), g ∈ X ∨ w0.heap.size ≤ g) (hz : Φ z) :
    ∀ a w, SS n T X w0 m L a w → EX (.post P fn (Ret V X N Φ w0)) .ret a w :=
  fun a w hs => ⟨hs.agr.defers.trans hd0, _, results_of hfn hR hs.agr hs.ch hs.has, z, by rw [hv], hs.ch, hs.has.sub hN, hnew, hz⟩
theorem r_end (z : α) (hd0 : dfs T = []) (hfn : fn.results = rs.toArray) (hR : Res P X w0 T L rs vs) (hv : vval vs = V z) (hN : (N z).Sublist L) (hnew : ∀ g ∈ feet (N z), g ∈ X ∨ w0.heap.size ≤ g) (hz : Φ z) :
    ∀ a w, SS n T X w0 m L a w → EX (.post P fn (Ret V X N Φ w0)) .normal a w :=
  fun a w hs => ⟨hs.agr.defers.trans hd0, _, results_of hfn hR hs.agr hs.ch hs.has, z, by rw [hv], hs.ch, hs.has.sub hN, hnew, hz⟩
end
end Go.Proofs.YtgmghkakiocmjaaGreatDoor
namespace Go.Proofs.YtgmghkakiocmjaaGreatDoor
open Go Go.RowKit
set_option linter.unusedVariables false
def allOne : List Value → Bool
  | [] => true
  | v :: l => v.oneCell' && allOne l
theorem allOne_mem : ∀ {l : List Value}, allOne l = true → ∀ v ∈ l, v.oneCell' = true
  | [], _, v, h => by simp at h
  | u :: l, h, v, hv => by
    simp only [allOne, Bool.and_eq_true] at h
    rcases List.mem_cons.1 hv with rfl | hv
    · exact h.1
    · exact allOne_mem h.2 v hv
theorem allOne_arr {vs : Array Value} (h : allOne vs.toList = true) : vs.all (·.oneCell') = true := by
  rw [Array.all_eq_true]
  intro i hi
  exact allOne_mem h _ (by simp)
theorem lt_of_blt {a b : Nat} (h : Nat.blt a b = true) : a < b := Nat.blt_eq ▸ h
inductive Pl (c c' : Chunk) : List Chunk → List Chunk → Prop
  | here {R : List Chunk} : Pl c c' (c :: R) (c' :: R)
  | there {d : Chunk} {R R' : List Chunk} (h : Pl c c' R R') : Pl c c' (d :: R) (d :: R')
theorem Pl.split {c c' : Chunk} {L L' : List Chunk} (h : Pl c c' L L') : ∃ A B, L = A ++ c :: B ∧ L' = A ++ c' :: B := by
  induction h with
  | @here R => exact ⟨[], R, rfl, rfl⟩
  | @there d R R' _ ih => obtain ⟨A, B, h1, h2⟩ := ih; exact ⟨d :: A, B, by simp [h1], by simp [h2]⟩
theorem Pl.mem {c c' : Chunk} {L L' : List Chunk} (h : Pl c c' L L') : c ∈ L := by obtain ⟨A, B, rfl, _⟩ := h.split; simp
theorem Has.repl {c c' : Chunk} {L L' : List Chunk} {w w' : World} (hp : Pl c c' L L') (hL : Has L w) (hf : ∀ g ∈ c'.foot, g ∈ c.foot ∨ w.heap.size ≤ g) (hc : c'.ok w') (hk : ∀ k, k < w.heap.size → k ∉ c.foot → w'.heap[k]? = w.heap[k]?) : Has L' w' := by
  obtain ⟨A, B, rfl, rfl⟩ := hp.split
  have hap := hL.apart
  rw [feet_append] at hap
  simp only [feet, List.flatMap_cons] at hap
  have hlt := hL.lt
  have hA : ∀ g ∈ A.flatMap Chunk.foot, g ∉ c.foot ∧ g < w.heap.size := fun g hg => ⟨fun hm => (List.nodup_append.1 hap).2.2 g hg g (List.mem_append_left _ hm) rfl, hlt g (by rw [feet_append]; exact List.mem_append_left _ hg)⟩
  have hB : ∀ g ∈ B.flatMap Chunk.foot, g ∉ c.foot ∧ g < w.heap.size := fun g hg => ⟨fun hm => (List.nodup_append.1 (List.nodup_append.1 hap).2.1).2.2 g hm g hg rfl, hlt g (by rw [feet_append]; exact List.mem_append_right _ (by simp only [feet, List.flatMap_cons]; exact List.mem_append_right _ hg))⟩
  refine ⟨fun d hd => ?_, ?_⟩
  · rcases List.mem_append.1 hd with h | h
    · exact ok_congr (fun g hg => hk g (hA g (List.mem_flatMap.2 ⟨d, h, hg⟩)).2 (hA g (List.mem_flatMap.2 ⟨d, h, hg⟩)).1) (hL.ok d (List.mem_append_left _ h))
    · rcases List.mem_cons.1 h with rfl | h
      · exact hc
      · exact ok_congr (fun g hg => hk g (hB g (List.mem_flatMap.2 ⟨d, h, hg⟩)).2 (hB g (List.mem_flatMap.2 ⟨d, h, hg⟩)).1) (hL.ok d (List.mem_append_right _ (List.mem_cons_of_mem _ h)))
  · rw [feet_append]
    simp only [feet, List.flatMap_cons]
    obtain ⟨n1, n2, n3⟩ := List.nodup_append.1 hap
    obtain ⟨m1, m2, m3⟩ := List.nodup_append.1 n2
    refine List.nodup_append.2 ⟨n1, List.nodup_append.2 ⟨foot_nodup c', m2, fun a ha b hb e => ?_⟩, fun a ha b hb e => ?_⟩
    · subst e
      rcases hf a ha with h | h
      · exact m3 a h a hb rfl
      · have := (hB a hb).2; omega
    · subst e
      rcases List.mem_append.1 hb with h | h
      · rcases hf a h with h' | h'
        · exact (hA a ha).1 h'
        · have := (hA a ha).2; omega
      · exact n3 a ha a (List.mem_append_right _ h) rfl
def setA (cs : Array Value) : Nat → List Value → Array Value
  | _, [] => cs
  | o, v :: vs => setA (cs.setIfInBounds o v) (o + 1) vs
theorem setA_size : ∀ (vs : List Value) (cs : Array Value) (o : Nat), (setA cs o vs).size = cs.size
  | [], _, _ => rfl
  | v :: vs, cs, o => by rw [setA, setA_size vs]; simp
theorem setA_toList : ∀ (vs : List Value) (cs : Array Value) (o : Nat), o + vs.length ≤ cs.size → (setA cs o vs).toList = cs.toList.take o ++ vs ++ cs.toList.drop (o + vs.length)
  | [], cs, o, h => by simp [setA]
  | v :: vs, cs, o, h => by
    simp only [List.length_cons] at h
    rw [setA, setA_toList vs _ _ (by simp; omega)]
    simp only [Array.toList_setIfInBounds, List.length_cons]
    rw [List.take_set, List.drop_set, if_pos (by omega), show o + 1 + vs.length = o + (vs.length + 1) by omega]
    rw [List.take_succ_eq_append_getElem (by simp; omega), List.set_append_right _ _ (by rw [List.length_take]; exact Nat.min_le_left _ _)]
    simp [Nat.min_eq_left (show o ≤ cs.size by omega)]
theorem setA_whole {vs : List Value} {cs : Array Value} (h : vs.length = cs.size) : setA cs 0 vs = vs.toArray := by
  apply Array.ext'
  rw [setA_toList vs cs 0 (by omega)]
  simp [h]
theorem cellsOf_setCell {w : World} {g i : Nat} {v : Value} {cs : Array Value} {t : TypeId} {fr : Nat × Nat} (h : w.heap[g]? = some (.cells cs t fr)) : (w.setCell ⟨g, i, none⟩ v).heap[g]? = some (.cells (cs.setIfInBounds i v) t fr) := by
  simp [World.setCell, Array.getElem?_modify, h]
theorem cellsOf_setCells {g : Nat} {t : TypeId} {fr : Nat × Nat} : ∀ (vs : List Value) (o : Nat) (w : World) (cs : Array Value), w.heap[g]? = some (.cells cs t fr) → (w.setCells g o vs).heap[g]? = some (.cells (setA cs o vs) t fr)
  | [], _, _, _, h => h
  | v :: vs, o, w, cs, h => cellsOf_setCells vs (o + 1) _ _ (cellsOf_setCell h)
theorem heap_setCells {g : Nat} : ∀ (vs : List Value) (o : Nat) (w : World) (k : Nat), k ≠ g → (w.setCells g o vs).heap[k]? = w.heap[k]?
  | [], _, _, _, _ => rfl
  | v :: vs, o, w, k, h => by
    rw [World.setCells, heap_setCells vs _ _ k h]
    exact Below.heap_setCell w ⟨g, o, none⟩ v k h
theorem size_setCells {g : Nat} : ∀ (vs : List Value) (o : Nat) (w : World), (w.setCells g o vs).heap.size = w.heap.size
  | [], _, _ => rfl
  | v :: vs, o, w => by rw [World.setCells, size_setCells vs]; simp [World.setCell]
theorem Ch.setCells {X : List Nat} {a : World} {g : Nat} (hg : g ∈ X ∨ a.heap.size ≤ g) : ∀ (vs : List Value) (o : Nat) (b : World), Ch X a b → Ch X a (b.setCells g o vs)
  | [], _, _, h => h
  | v :: vs, o, b, h => Ch.setCells hg vs (o + 1) _ (h.setCell hg v)
theorem there_of {w : World} {g o : Nat} {cs : Array Value} {t : TypeId} {k : Nat} (h : w.heap[g]? = some (.cells cs t (0, 0))) (hk : o + k ≤ cs.size) : w.there g o k := fun j hj => by
  have : o + j < cs.size := by omega
  simp [World.cell?, World.frozen?, h, this]
section
variable {P : Program} {n m d : Nat} {T : List (Nat × Value)} {X : List Nat} {w0 : World} {L L' : List Chunk} {K : Act → World → Prop} {Q : Exit → Act → World → Prop}
  {ty t e tt : TypeId} {pos : String} {af : Array Edge} {gu : Option (Nat × Bool)} {u v v1 v2 : Value} {x y c : Operand} {cs : Array Value} {g off : Nat}
theorem wp_value {o : Oper} {a : Act} {w w' : World} {v : Value} (h : (execOp a.eval o).run P w = .ok (.value v) w') (hk : K (a.put o.dst v) w') : OW P o K Q a w := by
  refine ⟨?_⟩
  unfold Oper.wp; rw [h, Oper.upon_value]; exact hk
theorem wp_skipOp {o : Oper} {a : Act} {w w' : World} (h : (execOp a.eval o).run P w = .ok .skip w') (hk : K (a.put o.dst undef) w') : OW P o K Q a w := by
  refine ⟨?_⟩
  unfold Oper.wp; rw [h, Oper.upon_skip]; exact hk
theorem e_alloc (hd : Nat.blt d n = true) [hz : ZrT P t cs] (h : ∀ a w, SS n ((d, .pointer (some ⟨m, 0, none⟩)) :: T) X w0 (m + 1) (.blk m (.cells cs t) :: L) a w → K a w) :
    ∀ a w, SS n T X w0 m L a w → OW P ⟨some d, .alloc t, ty, pos, af, gu⟩ K Q a w := by
  intro a w hs
  obtain ⟨hA, hC, rfl, hL⟩ := hs
  have hz1 := hz.h
  clear hz
  unfold zeroOf at hz1
  rw [Option.map_eq_some_iff] at hz1
  obtain ⟨z, hz1, rfl⟩ := hz1
  rw [Option.bind_eq_some_iff] at hz1
  obtain ⟨i, hi, hz⟩ := hz1
  refine wp_value (w' := w.alloc (.cells z.cells t)) (v := .pointer (some ⟨w.heap.size, 0, none⟩)) ?_ (h _ _ ⟨hA.put _ hd, hC.alloc _, by simp, hL.alloc _⟩)
  simp [execOp, Instr.alloc, zeroValue, typeInfo, hi, hz, newVar, newRow]
theorem e_box (hx : ev T x = some v) (hd : Nat.blt d n = true) (h : ∀ a w, SS n ((d, .pointer (some ⟨m, 0, none⟩)) :: T) X w0 (m + 1) (.blk m (.cells v.cells t) :: L) a w → K a w) :
    ∀ a w, SS n T X w0 m L a w → OW P ⟨some d, .box t x, ty, pos, af, gu⟩ K Q a w := by
  intro a w hs
  obtain ⟨hA, hC, rfl, hL⟩ := hs
  refine wp_value (w' := w.alloc (.cells v.cells t)) (v := .pointer (some ⟨w.heap.size, 0, none⟩)) ?_ (h _ _ ⟨hA.put _ hd, hC.alloc _, by simp, hL.alloc _⟩)
  simp [execOp, hA.eval hx, Instr.box, newVar, newRow]
theorem e_box_agg (hx : ev T x = some (.agg cs)) (hd : Nat.blt d n = true) (h : ∀ a w, SS n ((d, .pointer (some ⟨m, 0, none⟩)) :: T) X w0 (m + 1) (.blk m (.cells cs t) :: L) a w → K a w) :
    ∀ a w, SS n T X w0 m L a w → OW P ⟨some d, .box t x, ty, pos, af, gu⟩ K Q a w := e_box hx hd h
theorem cells_one (h : v.oneCell' = true) : v.cells = #[v] := by cases v <;> simp_all [Value.cells, Value.oneCell']
theorem e_box_one (hx : ev T x = some v) (ho : v.oneCell' = true) (hd : Nat.blt d n = true) (h : ∀ a w, SS n ((d, .pointer (some ⟨m, 0, none⟩)) :: T) X w0 (m + 1) (.blk m (.cells #[v] t) :: L) a w → K a w) :
    ∀ a w, SS n T X w0 m L a w → OW P ⟨some d, .box t x, ty, pos, af, gu⟩ K Q a w := e_box hx hd (by rw [cells_one ho]; exact h)
theorem size_one [hs : SzT P t 1] {w : World} : (sizeOf t).run P w = .ok 1 w := by
  have hs := hs.h
  rw [Option.map_eq_some_iff] at hs
  obtain ⟨inf, h2, h3⟩ := hs
  simp [sizeOf, typeInfo, h2, h3]
theorem run_store_one {w : World} (hc : w.cell? ⟨g, off, none⟩ = some u) (hf : w.frozen? ⟨g, off, none⟩ = false) (ho : v.oneCell' = true) [hs : SzT P t 1] : (Instr.storeAt t (.pointer (some ⟨g, off, none⟩)) v).run P w = .ok () (w.setCell ⟨g, off, none⟩ v) := by
  have h1 : (store (⟨g, off, none⟩ : Addr) v).run P w = .ok () (w.setCell ⟨g, off, none⟩ v) := by rw [run_store P w _ v _ ho]; simp [hc, hf]
  have h2 : (⟨g, off, none⟩ : Addr).add 0 = ⟨g, off, none⟩ := rfl
  simp [Instr.storeAt, Instr.sureAddr, storeVar, cells_one ho, size_one, storeCells, h2, h1]
theorem e_store1 (hx : ev T x = some (.pointer (some ⟨g, off, none⟩))) (hy : ev T y = some v) [hs : SzT P t 1] (ho : v.oneCell' = true) (hp : Pl (.blk g (.cells cs tt (0, 0))) (.blk g (.cells (cs.setIfInBounds off v) tt (0, 0))) L L') (hoff : off < cs.size)
    (hg : g ∈ X ∨ w0.heap.size ≤ g) (h : ∀ a w, SS n T X w0 m L' a w → K a w) : ∀ a w, SS n T X w0 m L a w → OW P ⟨none, .store t x y, ty, pos, af, gu⟩ K Q a w := by
  intro a w hs'
  obtain ⟨hA, hC, rfl, hL⟩ := hs'
  have hoff' := hoff
  have hb := hL.ok _ hp.mem
  simp only [Chunk.ok] at hb
  refine wp_skipOp (w' := w.setCell ⟨g, off, none⟩ v) ?_ (h _ _ ⟨hA.put_none _, hC.setCell (p := ⟨g, off, none⟩) hg v, by simp [World.setCell], Has.repl hp hL (fun k hk => .inl hk) (cellsOf_setCell hb) (fun k _ hk => Below.heap_setCell w ⟨g, off, none⟩ v k (by simpa [Chunk.foot] using hk))⟩)
  have h1 := run_store_one (P := P) (t := t) (w := w) (g := g) (off := off) (v := v) (u := cs[off]) (by simp [World.cell?, hb, hoff']) (by simp [World.frozen?, hb]) ho
  simp only [execOp, hA.eval hx, hA.eval hy, Sem.run_bind, h1, Result.andThen_ok, Sem.run_pure]
def setL : List Value → Nat → Value → List Value
  | [], _, _ => []
  | _ :: l, 0, v => v :: l
  | u :: l, i + 1, v => u :: setL l i v
theorem setL_eq : ∀ (l : List Value) (i : Nat) (v : Value), setL l i v = l.set i v
  | [], _, _ => rfl
  | _ :: _, 0, _ => rfl
  | u :: l, i + 1, v => by rw [setL, setL_eq l i v]; rfl
theorem e_store1l {l l' : List Value} (hx : ev T x = some (.pointer (some ⟨g, off, none⟩))) (hy : ev T y = some v) [hs : SzT P t 1] (ho : v.oneCell' = true) (hm : Chunk.blk g (.cells l.toArray tt (0, 0)) ∈ L) (hl : setL l off v = l') (hp : Pl (.blk g (.cells l.toArray tt (0, 0))) (.blk g (.cells l'.toArray tt (0, 0))) L L') (hoff : Nat.blt off l.length = true)
    (hg : g ∈ X ∨ w0.heap.size ≤ g) (h : ∀ a w, SS n T X w0 m L' a w → K a w) : ∀ a w, SS n T X w0 m L a w → OW P ⟨none, .store t x y, ty, pos, af, gu⟩ K Q a w := by
  have e : l.toArray.setIfInBounds off v = l'.toArray := by rw [← hl, setL_eq]; simp
  exact e_store1 (cs := l.toArray) (tt := tt) hx hy ho (by rw [e]; exact hp) (by simpa using lt_of_blt hoff) hg h
theorem e_store_row {k : Nat} {vs : Array Value} (hx : ev T x = some (.pointer (some ⟨g, off, none⟩))) (hy : ev T y = some (.agg vs)) [hs : RwT P t k] (hk : vs.size = k) (ho : allOne vs.toList = true) (hp : Pl (.blk g (.cells cs tt (0, 0))) (.blk g (.cells (setA cs off vs.toList) tt (0, 0))) L L') (hoff : off + k ≤ cs.size)
    (hg : g ∈ X ∨ w0.heap.size ≤ g) (h : ∀ a w, SS n T X w0 m L' a w → K a w) : ∀ a w, SS n T X w0 m L a w → OW P ⟨none, .store t x y, ty, pos, af, gu⟩ K Q a w := by
  intro a w hs'
  obtain ⟨hA, hC, rfl, hL⟩ := hs'
  subst hk
  have hb := hL.ok _ hp.mem
  simp only [Chunk.ok] at hb
  refine wp_skipOp (w' := w.setCells g off vs.toList) ?_ (h _ _ ⟨hA.put_none _, hC.setCells hg _ _, size_setCells _ _ _, Has.repl hp hL (fun k hk => .inl hk) (cellsOf_setCells _ _ _ _ hb) (fun k _ hk => heap_setCells _ _ _ k (by simpa [Chunk.foot] using hk))⟩)
  have h1 := run_storeAt_mid (P := P) w g off t vs (there_of hb hoff) (rowT_spec hs.h).2 (allOne_arr ho)
  simp only [execOp, hA.eval hx, hA.eval hy, Sem.run_bind, h1, Result.andThen_ok, Sem.run_pure]
theorem e_store_all {k : Nat} {vs : Array Value} (hx : ev T x = some (.pointer (some ⟨g, 0, none⟩))) (hy : ev T y = some (.agg vs)) [hs : RwT P t k] (hk : vs.size = k) (ho : allOne vs.toList = true) (hp : Pl (.blk g (.cells cs tt (0, 0))) (.blk g (.cells vs tt (0, 0))) L L') (hoff : cs.size = k)
    (hg : g ∈ X ∨ w0.heap.size ≤ g) (h : ∀ a w, SS n T X w0 m L' a w → K a w) : ∀ a w, SS n T X w0 m L a w → OW P ⟨none, .store t x y, ty, pos, af, gu⟩ K Q a w :=
  e_store_row (cs := cs) (tt := tt) hx hy hk ho (by rw [setA_whole (by simp [hk, hoff])]; exact hp) (by omega) hg h
/-! ### slices made -/
theorem e_make {sz bytes : Nat} {k k' : IntKind} {l c : Int} {zs : Array Value} (hx : ev T x = some (.int k l)) (hy : ev T y = some (.int k' c)) (hd : Nat.blt d n = true) [hu : UT P t (.slice e)] [hz : ZrT P e zs] [hs : SzT P e sz] [hb : ByT P e bytes]
    (h0 : 0 ≤ l) (h1 : l ≤ c) (h2 : (bytes : Int) * c ≤ 281474976710656) (h3 : c ≤ 9223372036854775807)
    (h : ∀ a w, SS n ((d, .slice (some ⟨m, 0, none⟩) l.toNat c.toNat) :: T) X w0 (m + 1) (.sl (some ⟨m, 0, none⟩) c.toNat e sz (madeCells zs (c.toNat * sz)).toList :: L) a w → K a w) :
    ∀ a w, SS n T X w0 m L a w → OW P ⟨some d, .makeSlice t x y, ty, pos, af, gu⟩ K Q a w := by
  intro a w hs'
  obtain ⟨hA, hC, rfl, hL⟩ := hs'
  have hz1 := hz.h
  clear hz
  unfold zeroOf at hz1
  rw [Option.map_eq_some_iff] at hz1
  obtain ⟨z, hz1, rfl⟩ := hz1
  rw [Option.bind_eq_some_iff] at hz1
  obtain ⟨i, hi, hz⟩ := hz1
  have hs1 := hs.h
  have hb1 := hb.h
  simp only [hi, Option.map_some, Option.some.injEq] at hs1 hb1
  subst hs1
  subst hb1
  have hr := run_make (P := P) w t e i z hu.h hi hz k k' l c h0 h1 h2 h3
  refine wp_value (w' := w.alloc (.cells (madeCells z.cells (c.toNat * i.size)) e)) (v := .slice (some ⟨w.heap.size, 0, none⟩) l.toNat c.toNat) ?_ (h _ _ ⟨hA.put _ hd, hC.alloc _, by simp, ?_⟩)
  · simp only [execOp, hA.eval hx, hA.eval hy, Sem.run_bind, hr, Result.andThen_ok, Sem.run_pure]
  · have h4 := hL.alloc (.cells (madeCells z.cells (c.toNat * i.size)) e)
    refine Has.repl (w := w.alloc _) (c := .blk w.heap.size _) .here h4 (fun k hk => .inl (by simpa [Chunk.foot] using hk)) (.inr ⟨w.heap.size, _, rfl, h4.ok _ (List.mem_cons_self ..), size_madeCells _ _, by rw [Array.length_toList, ← Array.length_toList, List.take_length]⟩) (fun _ _ _ => rfl)
theorem add_nil {F : Act → World → Prop} (e : TypeId) (sz : Nat) (h : ∀ a w, SS n T X w0 m (.sl none 0 e sz [] :: L) a w → F a w) : ∀ a w, SS n T X w0 m L a w → F a w := by
  intro a w hs
  exact h a w ⟨hs.agr, hs.ch, hs.size, hs.has.cons (.inl ⟨rfl, rfl, rfl⟩) (by simp [Chunk.foot]) (by simp [Chunk.foot])⟩
/-! ### views -/
def Vw (X : List Nat) (w0 : World) (L : List Chunk) (b : Option Addr) (vs : List Value) : Prop := (b = none ∧ vs = []) ∨ ∃ p, b = some p ∧ RdN X w0 L p vs
theorem Src.ofVw {sz : Nat} {tx e' : TypeId} (hk : P.underlying tx = some (.slice e')) {b : Option Addr} {len cap : Nat} {news : List Value} (hv : Vw X w0 L b news) (hl : news.length = len * sz) (hz : b = none → len = 0) (h1 : ∀ u ∈ news, u.oneCell' = true) {w : World} (hC : Ch X w0 w) (hL : Has L w) : Src P sz tx (.slice b len cap) len news w := by
  rcases hv with ⟨rfl, rfl⟩ | ⟨p, rfl, hr⟩
  · obtain rfl := hz rfl
    exact Src.ofNil w hk cap
  · exact Src.ofSlice w hk p len cap news hl (hr.cells hC hL) h1
theorem run_bytes_zero {src e : TypeId} (hs : P.underlying src = some (.slice e)) (he : P.underlying e = some (.int .u8)) (ht : P.underlying t = some .string) (b : Option Addr) (cap : Nat) (w : World) :
    (convert src t (.slice b 0 cap)).run P w = .ok (.string (strOfNums [])) w := by
  cases b <;> simp [convert, run_underlying hs, run_underlying ht, run_underlying he, Conv.bytesToString, loadCells, loadCellsFrom] <;> rfl
theorem q_conv_bytes {b : Option Addr} {len cap : Nat} {xs : List Int} {src e : TypeId} (hx : ev T x = some (.slice b len cap)) [hs : UT P src (.slice e)] [he : UT P e (.int .u8)] [ht : UT P t .string] (hv : Vw X w0 L b (xs.map (Value.int .u8))) (hl : xs.length = len) {dst : Option Tmp} :
    Qt P X w0 ⟨dst, .convert src t x, ty, pos, af, gu⟩ T L (.string (strOfNums xs)) := by
  refine ⟨?_⟩
  intro n ac w hA hC hL
  have key : (convert src t (.slice b len cap)).run P w = .ok (.string (strOfNums xs)) w := by
    rcases hv with ⟨rfl, h2⟩ | ⟨p, rfl, hr⟩
    · obtain rfl : xs = [] := by simpa using h2
      subst hl
      exact run_bytes_zero hs.h he.h ht.h none cap w
    · rcases xs with _ | ⟨x0, xs⟩
      · subst hl
        exact run_bytes_zero hs.h he.h ht.h (some p) cap w
      · have hc := hr.cells hC hL
        have h0 := (hr.rd 0 _ rfl).1
        obtain ⟨g, o, s⟩ := p
        simp only at h0
        subst h0
        have hc' : ∀ i, i < len → w.cell? ⟨g, o + i, none⟩ = some (.int .u8 ((x0 :: xs).getD i 0)) := fun i hi => by
          have hi' : i < (x0 :: xs).length := by omega
          have h5 := hc i (.int .u8 ((x0 :: xs).getD i 0)) (by rw [List.getElem?_map, List.getElem?_eq_getElem hi', List.getD, List.getElem?_eq_getElem hi']; rfl)
          rwa [Addr.add_mid] at h5
        exact run_convert_bytes_arg w src e hs.h he.h g o len cap (x0 :: xs) hl hc' t ht.h
  simp only [execOp, hA.eval hx, Sem.run_bind, key, Result.andThen_ok, Sem.run_pure]
end
end Go.Proofs.YtgmghkakiocmjaaGreatDoor
namespace Go.Proofs.YtgmghkakiocmjaaGreatDoor
open Go Go.RowKit
set_option linter.unusedVariables false
def NoPO (Q : Exit → Act → World → Prop) : Exit → Act → World → Prop
  | .panic _, _, _ => False
  | .outgrown, _, _ => False
  | e, a, w => Q e a w
theorem NoPO.imp {Q : Exit → Act → World → Prop} : ∀ (e : Exit) (a : Act) (w : World), NoPO Q e a w → Q e a w := fun e a w h => by
  cases e <;> first | exact h | exact (h : False).elim
section
variable {P : Program} {ops : Array Oper} {Q : Exit → Act → World → Prop} {S : World → Prop}
def YQ (P : Program) (ops : Array Oper) (S : World → Prop) (o : Oper) (v : Value) (a : Act) : Prop :=
  (Region.wanted o (yielded ops a.tmps) = true ∧ ∀ w, S w → (execOp a.eval o).run P w = .ok (.value v) w) ∨ (Region.wanted o (yielded ops a.tmps) = false ∧ v = undef)
theorem YQ.wpOp {i : Nat} {o : Oper} {v : Value} {a : Act} (hi : ops[i]? = some o) (hy : YQ P ops S o v a) {K : Act → World → Prop} {w : World} (hS : S w) (h : K (a.put o.dst v) w) : wpOp P ops Q i K a w := by
  unfold Go.wpOp
  simp only [hi]
  rcases hy with ⟨hw, hv⟩ | ⟨hw, rfl⟩
  · rw [if_pos hw]
    refine .inl ?_
    unfold Oper.wp
    rw [hv w hS, Oper.upon_value]
    exact h
  · rw [if_neg (by simp [hw])]; exact h
theorem YQ.of_same {o : Oper} {v : Value} {a a' : Act} (hy : YQ P ops S o v a) (he : execOp a'.eval o = execOp a.eval o) (hw : Region.wanted o (yielded ops a'.tmps) = Region.wanted o (yielded ops a.tmps)) : YQ P ops S o v a' := by
  unfold YQ at *
  rw [he, hw]
  exact hy
theorem wpOp_putQ {j : Nat} {oi oj : Oper} {v : Value} (hj : ops[j]? = some oj) (hap : oi.apart ops oj = true) (hsi : ∀ cs b, oi.op ≠ .select cs b) (hsj : ∀ cs b, oj.op ≠ .select cs b)
    (hQ : ∀ c a w, Q (.panic c) (a.put oi.dst v) w → Q (.panic c) a w) {K : Act → World → Prop} {a : Act} {w : World} (hy : YQ P ops S oi v a) (h : wpOp P ops Q j K (a.put oi.dst v) w) :
    wpOp P ops Q j (fun a' w' => YQ P ops S oi v a' ∧ K (a'.put oi.dst v) w') a w := by
  obtain ⟨h1, h2, h3⟩ := Oper.apart_spec hap
  have keep : ∀ (a : Act), YQ P ops S oi v a → ∀ u, YQ P ops S oi v (a.put oj.dst u) := fun a hy u => hy.of_same (execOp_put oi hsi a oj.dst u h3) (wanted_put oi a oj.dst u h3)
  have keepD : ∀ d, YQ P ops S oi v { a with defers := d :: a.defers } := fun d => hy.of_same rfl rfl
  unfold Go.wpOp at *
  simp only [hj] at *
  rw [wanted_put oj a oi.dst v h1] at h
  split
  · rename_i hw
    simp only [hw, if_true] at h
    rcases h with h | ⟨hasks, hlets⟩
    case inr => exact .inr ⟨by unfold Oper.asks at *; rw [execOp_put oj hsj a oi.dst v h1] at hasks; exact hasks, hlets⟩
    refine .inl ?_
    unfold Oper.wp at *
    rw [execOp_put oj hsj a oi.dst v h1] at h
    generalize (execOp a.eval oj).run P w = r at *
    cases r with
    | ok n w' =>
      cases n <;> simp only [Oper.upon] at h ⊢
      case value u => exact ⟨keep a hy u, by rw [← Act.put_comm a v u h2]; exact h⟩
      case skip => exact ⟨keep a hy _, by rw [← Act.put_comm a v undef h2]; exact h⟩
      case defer d =>
        refine ⟨keep _ (keepD d) _, ?_⟩
        rw [← Act.put_comm _ v undef h2, ← Act.put_defers]
        exact h
      case enter f args =>
        refine Calls.mono h fun e w'' he => ?_
        cases e with
        | returned u => exact ⟨keep a hy u, by rw [← Act.put_comm a v u h2]; exact he⟩
        | panicked c => exact hQ _ _ _ he
        | outgrown => exact he
      case row row args => exact Rows.mono h fun u w'' he => ⟨keep a hy u, by rw [← Act.put_comm a v u h2]; exact he⟩
    | halt x w' =>
      cases x <;> simp only [Oper.upon] at h ⊢
      case panic u => exact hQ _ _ _ h
  · rename_i hw
    simp only [hw] at h
    exact ⟨keep a hy _, by rw [← Act.put_comm a v undef h2]; exact h⟩
def wpAnyS (P : Program) (ops : Array Oper) (Q : Exit → Act → World → Prop) (S : Array Bool → World → Prop) : Nat → Array Bool → Act → World → Prop
  | 0, listed, a, w => Region.ready .any ops listed = [] ∧ Q .normal a w
  | fuel + 1, listed, a, w => (Region.ready .any ops listed = [] → Q .normal a w) ∧ ∀ i ∈ Region.ready .any ops listed, wpOp P ops Q i (fun a' w' => S (listed.setIfInBounds i true) w' ∧ wpAnyS P ops Q S fuel (listed.setIfInBounds i true) a' w') a w
theorem wpAny_of_S {S : Array Bool → World → Prop} : ∀ (fuel : Nat) (listed : Array Bool) (a : Act) (w : World), wpAnyS P ops Q S fuel listed a w → wpAny P .any ops Q fuel listed a w
  | 0, _, _, _, h => h
  | fuel + 1, _, _, _, h => ⟨h.1, fun i hi => wpOp_mono (fun a' w' h' => wpAny_of_S fuel _ a' w' h'.2) (h.2 i hi)⟩
theorem anyS_first {S : Array Bool → World → Prop} {i : Nat} {oi : Oper} {v : Value} (hi : ops[i]? = some oi) (hsel : ∀ (j : Nat) (o : Oper) cs b, ops[j]? = some o → o.op ≠ .select cs b)
    (hQ : ∀ c a w, Q (.panic c) (a.put oi.dst v) w → Q (.panic c) a w) (hSi : ∀ l w, S (l.setIfInBounds i true) w ↔ S l w) :
    ∀ (fuel : Nat) (listed : Array Bool) (a : Act) (w : World),
      (∀ j oj, ops[j]? = some oj → j ≠ i → listed.getD j true = false → (∀ e ∈ oj.after, Region.binds .any e = true → e.on ≠ i) → oi.apart ops oj = true) →
      (∀ l, l.getD i true = false → (∀ k, listed.getD k true = true → l.getD k true = true) → ∀ j ∈ Region.ready .any ops l, j ≠ i → ∀ w, S (l.setIfInBounds j true) w ↔ S l w) →
      i ∈ Region.ready .any ops listed → S listed w → YQ P ops (S listed) oi v a →
      wpAnyS P ops Q S fuel (listed.setIfInBounds i true) (a.put oi.dst v) w → wpAnyS P ops Q S (fuel + 1) listed a w := by
  intro fuel
  induction fuel with
  | zero =>
    intro listed a w _ _ hr hS hy H
    refine ⟨fun h => (by rw [h] at hr; cases hr), fun j hj => ?_⟩
    by_cases hji : j = i
    · subst hji; exact hy.wpOp hi hS ⟨(hSi _ _).2 hS, H⟩
    · have := ready_mono hj hji
      rw [H.1] at this
      cases this
  | succ fuel ih =>
    intro listed a w hfree hst hr hS hy H
    refine ⟨fun h => (by rw [h] at hr; cases hr), fun j hj => ?_⟩
    by_cases hji : j = i
    · subst hji; exact hy.wpOp hi hS ⟨(hSi _ _).2 hS, H⟩
    · have h1 := H.2 j (ready_mono hj hji)
      obtain ⟨hjun, oj, hoj, hall⟩ := mem_ready.1 hj
      have hun : listed.getD i true = false := (mem_ready.1 hr).1
      have hnot : ∀ e ∈ oj.after, Region.binds .any e = true → e.on ≠ i := fun e he hb heq => by
        have h1 := hall e he hb
        have h0 := hun
        rw [heq] at h1
        rcases Nat.lt_or_ge i listed.size with h' | h'
        · simp [h'] at h0 h1; rw [h0] at h1; cases h1
        · simp [Array.getElem?_eq_none h'] at h1
      have h2 := wpOp_putQ hoj (hfree j oj hoj hji hjun hnot) (fun cs b => hsel i oi cs b hi) (fun cs b => hsel j oj cs b hoj) hQ hy h1
      have hSj : ∀ w, S (listed.setIfInBounds j true) w ↔ S listed w := hst listed hun (fun _ h => h) j hj hji
      have e1 : S listed = S (listed.setIfInBounds j true) := funext fun w => propext (hSj w).symm
      refine wpOp_mono (fun a' w' h3 => ?_) h2
      have hS' : S (listed.setIfInBounds j true) w' := by
        have h4 := h3.2.1
        rw [Array.setIfInBounds_comm _ _ (Ne.symm hji), hSi] at h4
        exact h4
      refine ⟨hS', ih (listed.setIfInBounds j true) a' w' (fun k ok hk hki hun hno => ?_) (fun l hl hle => ?_) (ready_mono hr (Ne.symm hji)) hS' (e1 ▸ h3.1) ?_⟩
      · refine hfree k ok hk hki ?_ hno
        by_cases hjk : j = k
        · subst hjk; exact hjun
        · rw [getD_set_ne true hjk] at hun; exact hun
      · refine hst l hl fun k hk => hle k ?_
        by_cases hjk : j = k
        · subst hjk
          rcases Nat.lt_or_ge j listed.size with h' | h'
          · simp [h']
          · simp
        · rw [getD_set_ne true hjk]; exact hk
      · rw [Array.setIfInBounds_comm _ _ hji]
        exact h3.2.2
theorem anyS_firstN {S : Array Bool → World → Prop} {SY : World → Prop} (hSY : ∀ l w, S l w → SY w) {i : Nat} {oi : Oper} {v : Value} (hi : ops[i]? = some oi) (hsel : ∀ (j : Nat) (o : Oper) cs b, ops[j]? = some o → o.op ≠ .select cs b)
    (hQ : ∀ c a w, Q (.panic c) (a.put oi.dst v) w → Q (.panic c) a w) (hSi : ∀ l w, S (l.setIfInBounds i true) w ↔ S l w) :
    ∀ (fuel : Nat) (listed : Array Bool) (a : Act) (w : World),
      (∀ j oj, ops[j]? = some oj → j ≠ i → listed.getD j true = false → (∀ e ∈ oj.after, Region.binds .any e = true → e.on ≠ i) → oi.apart ops oj = true) →
      i ∈ Region.ready .any ops listed → S listed w → YQ P ops SY oi v a →
      wpAnyS P ops Q S fuel (listed.setIfInBounds i true) (a.put oi.dst v) w → wpAnyS P ops Q S (fuel + 1) listed a w := by
  intro fuel
  induction fuel with
  | zero =>
    intro listed a w _ hr hS hy H
    refine ⟨fun h => (by rw [h] at hr; cases hr), fun j hj => ?_⟩
    by_cases hji : j = i
    · subst hji; exact hy.wpOp hi (hSY _ _ hS) ⟨(hSi _ _).2 hS, H⟩
    · have := ready_mono hj hji
      rw [H.1] at this
      cases this
  | succ fuel ih =>
    intro listed a w hfree hr hS hy H
    refine ⟨fun h => (by rw [h] at hr; cases hr), fun j hj => ?_⟩
    by_cases hji : j = i
    · subst hji; exact hy.wpOp hi (hSY _ _ hS) ⟨(hSi _ _).2 hS, H⟩
    · have h1 := H.2 j (ready_mono hj hji)
      obtain ⟨hjun, oj, hoj, hall⟩ := mem_ready.1 hj
      have hun : listed.getD i true = false := (mem_ready.1 hr).1
      have hnot : ∀ e ∈ oj.after, Region.binds .any e = true → e.on ≠ i := fun e he hb heq => by
        have h1 := hall e he hb
        have h0 := hun
        rw [heq] at h1
        rcases Nat.lt_or_ge i listed.size with h' | h'
        · simp [h'] at h0 h1; rw [h0] at h1; cases h1
        · simp [Array.getElem?_eq_none h'] at h1
      have h2 := wpOp_putQ hoj (hfree j oj hoj hji hjun hnot) (fun cs b => hsel i oi cs b hi) (fun cs b => hsel j oj cs b hoj) hQ hy h1
      refine wpOp_mono (fun a' w' h3 => ?_) h2
      have hS' : S (listed.setIfInBounds j true) w' := by
        have h4 := h3.2.1
        rw [Array.setIfInBounds_comm _ _ (Ne.symm hji), hSi] at h4
        exact h4
      refine ⟨hS', ih (listed.setIfInBounds j true) a' w' (fun k ok hk hki hun hno => ?_) (ready_mono hr (Ne.symm hji)) hS' h3.1 ?_⟩
      · refine hfree k ok hk hki ?_ hno
        by_cases hjk : j = k
        · subst hjk; exact hjun
        · rw [getD_set_ne true hjk] at hun; exact hun
      · rw [Array.setIfInBounds_comm _ _ hji]
        exact h3.2.2
def dep (ops : Array Oper) (f i : Nat) : Bool :=
  match ops[f]? with
  | some o => o.after.any fun e => Region.binds .any e && Nat.beq e.on i
  | none => false
inductive Kd where | q | n | e | b
def okX (ops : Array Oper) (f : Option Nat) : Bool → List (Nat × Kd) → Array Bool → Bool
  | b, [], listed => (Region.ready .any ops listed).isEmpty
  | b, (i, .q) :: σ, listed => Region.free .any ops listed i && (Region.ready .any ops listed).contains i && (match f with | none => true | some f => !(Nat.beq f i) && (b || dep ops f i)) && okX ops f b σ (listed.setIfInBounds i true)
  | b, (i, .n) :: σ, listed => Region.free .any ops listed i && (Region.ready .any ops listed).contains i && (match f with | none => true | some f => !(Nat.beq f i)) && okX ops f b σ (listed.setIfInBounds i true)
  | b, (i, .e) :: σ, listed => Region.ready .any ops listed == [i] && (match f with | none => true | some f => !(Nat.beq f i)) && okX ops f b σ (listed.setIfInBounds i true)
  | b, (i, .b) :: σ, listed => Region.ready .any ops listed == [i] && !b && f == some i && okX ops f true σ (listed.setIfInBounds i true)
def LX (P : Program) (ops : Array Oper) (Q : Exit → Act → World → Prop) (S0 S1 : World → Prop) : Bool → List (Nat × Kd) → Act → World → Prop
  | _, [], a, w => Q .normal a w
  | b, (i, .q) :: σ, a, w => ∃ o v, ops[i]? = some o ∧ YQ P ops (if b then S1 else S0) o v a ∧ LX P ops Q S0 S1 b σ (a.put o.dst v) w
  | b, (i, .n) :: σ, a, w => ∃ o v, ops[i]? = some o ∧ YQ P ops S1 o v a ∧ LX P ops Q S0 S1 b σ (a.put o.dst v) w
  | b, (i, .e) :: σ, a, w => wpOp P ops Q i (fun a' w' => (if b then S1 else S0) w' ∧ LX P ops Q S0 S1 b σ a' w') a w
  | b, (i, .b) :: σ, a, w => wpOp P ops Q i (fun a' w' => S1 w' ∧ LX P ops Q S0 S1 true σ a' w') a w
def SL (f : Option Nat) (S0 S1 : World → Prop) (listed : Array Bool) (w : World) : Prop :=
  match f with
  | none => S0 w
  | some f => if listed.getD f true then S1 w else S0 w
theorem SL_set {f : Option Nat} {S0 S1 : World → Prop} {i : Nat} (h : ∀ g, f = some g → g ≠ i) (l : Array Bool) (w : World) : SL f S0 S1 (l.setIfInBounds i true) w ↔ SL f S0 S1 l w := by
  cases f with
  | none => exact Iff.rfl
  | some g => simp only [SL]; rw [getD_set_ne true (Ne.symm (h g rfl))]
theorem anyS_of_LX {S0 S1 : World → Prop} (hS01 : ∀ w, S0 w → S1 w) (hsel : ∀ (j : Nat) (o : Oper) cs b, ops[j]? = some o → o.op ≠ .select cs b) (hQ : ∀ c a w, ¬ Q (.panic c) a w) (f : Option Nat) (hf : ∀ g, f = some g → g < ops.size) :
    ∀ (σ : List (Nat × Kd)) (b : Bool) (listed : Array Bool) (a : Act) (w : World), listed.size = ops.size → (∀ g, f = some g → listed.getD g true = b) → (f = none → b = false) → okX ops f b σ listed = true → SL f S0 S1 listed w → LX P ops Q S0 S1 b σ a w →
      wpAnyS P ops Q (SL f S0 S1) σ.length listed a w
  | [], b, listed, a, w, hsz, hb, hn, hok, hS, h => ⟨by simpa [okX] using hok, h⟩
  | (i, .q) :: σ, b, listed, a, w, hsz, hb, hn, hok, hS, h => by
    simp only [okX, Bool.and_eq_true] at hok
    obtain ⟨⟨⟨hfr, hr⟩, hd⟩, hok⟩ := hok
    obtain ⟨o, v, ho, hy, h⟩ := h
    have hne : ∀ g, f = some g → g ≠ i := fun g hg => by
      subst hg
      simp only [Bool.and_eq_true, Bool.not_eq_true'] at hd
      exact Nat.ne_of_beq_eq_false hd.1
    have hSe : SL f S0 S1 listed = (if b then S1 else S0) := by
      funext w
      cases f with
      | none => simp [SL, hn rfl]
      | some g => simp only [SL, hb g rfl]; cases b <;> rfl
    refine anyS_first ho hsel (fun c a w hp => absurd hp (hQ _ _ _)) (SL_set hne) σ.length listed a w (Region.free_spec ho hfr) ?_ (by simpa using hr) hS (by rw [hSe]; exact hy) ?_
    · intro l hl hle j hj hji w
      cases f with
      | none => exact Iff.rfl
      | some g =>
        simp only [Bool.and_eq_true, Bool.not_eq_true', Bool.or_eq_true] at hd
        by_cases hjg : j = g
        · subst hjg
          obtain ⟨hjun, oj, hoj, hall⟩ := mem_ready.1 hj
          rcases hd.2 with hbt | hdep
          · have := hle j (by rw [hb j rfl, hbt])
            rw [this] at hjun; cases hjun
          · exfalso
            unfold dep at hdep
            rw [hoj] at hdep
            simp only [Array.any_eq_true', Bool.and_eq_true] at hdep
            obtain ⟨e, he, hbe, hon⟩ := hdep
            have h1 := hall e he hbe
            rw [Nat.eq_of_beq_eq_true hon] at h1
            rcases Nat.lt_or_ge i l.size with h' | h'
            · simp [h'] at hl h1; rw [hl] at h1; cases h1
            · simp [Array.getElem?_eq_none h'] at h1
        · exact SL_set (fun g' hg' => by cases hg'; exact Ne.symm hjg) l w
    · refine anyS_of_LX hS01 hsel hQ f hf σ b _ _ w (by simpa using hsz) (fun g hg => ?_) hn hok ((SL_set hne _ _).2 hS) h
      rw [getD_set_ne true (Ne.symm (hne g hg))]; exact hb g hg
  | (i, .n) :: σ, b, listed, a, w, hsz, hb, hn, hok, hS, h => by
    simp only [okX, Bool.and_eq_true] at hok
    obtain ⟨⟨⟨hfr, hr⟩, hd⟩, hok⟩ := hok
    obtain ⟨o, v, ho, hy, h⟩ := h
    have hne : ∀ g, f = some g → g ≠ i := fun g hg => by
      subst hg
      exact Nat.ne_of_beq_eq_false (by simpa using hd)
    have hSY : ∀ l w, SL f S0 S1 l w → S1 w := fun l w hs => by
      cases f with
      | none => exact hS01 w hs
      | some g => simp only [SL] at hs; split at hs <;> first | exact hs | exact hS01 w hs
    refine anyS_firstN hSY ho hsel (fun c a w hp => absurd hp (hQ _ _ _)) (SL_set hne) σ.length listed a w (Region.free_spec ho hfr) (by simpa using hr) hS hy ?_
    refine anyS_of_LX hS01 hsel hQ f hf σ b _ _ w (by simpa using hsz) (fun g hg => ?_) hn hok ((SL_set hne _ _).2 hS) h
    rw [getD_set_ne true (Ne.symm (hne g hg))]; exact hb g hg
  | (i, .e) :: σ, b, listed, a, w, hsz, hb, hn, hok, hS, h => by
    simp only [okX, Bool.and_eq_true, beq_iff_eq] at hok
    obtain ⟨⟨hr, hd⟩, hok⟩ := hok
    have hne : ∀ g, f = some g → g ≠ i := fun g hg => by
      subst hg
      exact Nat.ne_of_beq_eq_false (by simpa using hd)
    have hSe : SL f S0 S1 (listed.setIfInBounds i true) = (if b then S1 else S0) := by
      funext w
      cases f with
      | none => simp [SL, hn rfl]
      | some g => simp only [SL]; rw [getD_set_ne true (Ne.symm (hne g rfl)), hb g rfl]; cases b <;> rfl
    refine ⟨fun h' => (by rw [h'] at hr; cases hr), fun j hj => ?_⟩
    rw [hr] at hj
    obtain rfl : j = i := by simpa using hj
    refine wpOp_mono (fun a' w' h' => ?_) h
    have hS' : SL f S0 S1 (listed.setIfInBounds j true) w' := by rw [hSe]; exact h'.1
    refine ⟨hS', anyS_of_LX hS01 hsel hQ f hf σ b _ a' w' (by simpa using hsz) (fun g hg => ?_) hn hok hS' h'.2⟩
    rw [getD_set_ne true (Ne.symm (hne g hg))]; exact hb g hg
  | (i, .b) :: σ, b, listed, a, w, hsz, hb, hn, hok, hS, h => by
    simp only [okX, Bool.and_eq_true, beq_iff_eq] at hok
    obtain ⟨⟨⟨hr, _⟩, hfi⟩, hok⟩ := hok
    have hlt : i < ops.size := hf i hfi
    have hset : (listed.setIfInBounds i true).getD i true = true := by simp [hsz, hlt]
    refine ⟨fun h' => (by rw [h'] at hr; cases hr), fun j hj => ?_⟩
    rw [hr] at hj
    obtain rfl : j = i := by simpa using hj
    refine wpOp_mono (fun a' w' h' => ?_) h
    have hS' : SL f S0 S1 (listed.setIfInBounds j true) w' := by subst hfi; simp only [SL, hset, if_true]; exact h'.1
    refine ⟨hS', anyS_of_LX hS01 hsel hQ f hf σ true _ a' w' (by simpa using hsz) (fun g hg => ?_) (fun hf0 => by rw [hf0] at hfi; cases hfi) hok hS' h'.2⟩
    rw [hfi] at hg
    cases hg
    exact hset
theorem wpAnyIn_of {ro : Option Nat} (hnd : (ro.isNone || ops.toList.all (notDefer ·.op)) = true) (hp : ¬ LetsOut Q) : ∀ (fuel : Nat) (listed : Array Bool) (a : Act) (w : World), wpAny P .any ops Q fuel listed a w → wpAnyIn (fen ro) 0 P .any ops Q fuel listed a w
  | 0, _, _, _, h => h
  | fuel + 1, listed, a, w, h => by
    refine ⟨h.1, fun i hi => ?_⟩
    have h2 := h.2 i hi
    unfold wpOp at h2
    unfold wpOpIn
    cases ho : ops[i]? with
    | none => simp only [ho] at h2 ⊢; exact wpAnyIn_of hnd hp fuel _ _ _ h2
    | some o =>
      simp only [ho] at h2 ⊢
      have hno : (ro.isNone || notDefer o.op) = true := by
        cases ro with
        | none => rfl
        | some l =>
          simp only [Option.isNone_some, Bool.false_or, List.all_eq_true] at hnd ⊢
          exact hnd o (Array.mem_toList_iff.2 (Array.mem_of_getElem? ho))
      split at h2
      · rename_i hw
        rw [if_pos hw]
        rcases h2 with h2 | h2
        · exact wpIn_of_op hno (Oper.wp_mono (fun a w h => wpAnyIn_of hnd hp fuel _ a w h) h2)
        · exact absurd h2.2 hp
      · rename_i hw
        rw [if_neg hw]
        exact ⟨fun _ _ => trivial, wpAnyIn_of hnd hp fuel _ _ _ h2⟩
theorem region_X {ro : Option Nat} {id : Nat} {a : Act} {w : World} (f : Option Nat) (σ : List (Nat × Kd)) (S0 S1 : World → Prop) (hS01 : ∀ w, S0 w → S1 w) (hm : P.follows .mixedOrders = true)
    (hok : (Region.noSelect ops && Nat.beq σ.length ops.size && (match f with | none => true | some g => Nat.blt g ops.size) && okX ops f false σ (Array.replicate ops.size false)) = true) (hnd : (ro.isNone || ops.toList.all (notDefer ·.op)) = true) (hS : S0 w.drew)
    (h : LX P ops (NoPO Q) S0 S1 false σ a w.drew) : (Code.region id ops true).wpIn (fen ro) 0 P Q a w := by
  simp only [Bool.and_eq_true] at hok
  obtain ⟨⟨⟨hsel, hlen⟩, hf⟩, hok⟩ := hok
  have hf' : ∀ g, f = some g → g < ops.size := fun g hg => by subst hg; exact Nat.blt_eq ▸ hf
  refine wpIn_mono (wpIn_region_any hm ?_) NoPO.imp
  refine wpAnyIn_of hnd (fun h => ?_) _ _ _ _ ?_
  · exact (let ⟨_, _, h'⟩ := h; h')
  refine wpAny_of_S (S := SL f S0 S1) _ _ _ _ ?_
  have hrep : ∀ g, f = some g → (Array.replicate ops.size false).getD g true = false := fun g hg => by simp [hf' g hg]
  have hS' : SL f S0 S1 (Array.replicate ops.size false) w.drew := by
    cases f with
    | none => exact hS
    | some g => simp only [SL, hrep g rfl]; exact hS
  have h1 := anyS_of_LX hS01 (Region.noSelect_spec hsel) (fun _ _ _ h => h) f hf' σ false _ a w.drew (by simp) hrep (fun _ => rfl) hok hS' h
  rw [Nat.eq_of_beq_eq_true hlen] at h1
  exact h1
end
section
variable {P : Program} {n m d i : Nat} {T : List (Nat × Value)} {X : List Nat} {w0 : World} {L Lw : List Chunk} {ops : Array Oper} {Q : Ct}
  {op : Op} {ty : TypeId} {pos : String} {af : Array Edge} {gu : Option (Nat × Bool)} {v : Value} {σ : List (Nat × Kd)} {dst : Option Tmp} {b0 : Bool}
structure Sof (X : List Nat) (w0 : World) (Lw : List Chunk) (w : World) : Prop where
  ch : Ch X w0 w
  has : Has Lw w
def Lb (b : Bool) (Lw : List Chunk) : List Chunk := bif b then [] else Lw
theorem Sof_b {b : Bool} {w : World} : (if b then Sof X w0 [] else Sof X w0 Lw) w = Sof X w0 (Lb b Lw) w := by cases b <;> rfl
structure XL (P : Program) (ops : Array Oper) (Q : Ct) (X : List Nat) (w0 : World) (Lw : List Chunk) (b : Bool) (σ : List (Nat × Kd)) (a : Act) (w : World) : Prop where
  h : LX P ops (NoPO Q.den) (Sof X w0 Lw) (Sof X w0 []) b σ a w
structure XK (X : List Nat) (w0 : World) (Lw : List Chunk) (K : Act → World → Prop) (a : Act) (w : World) : Prop where
  s : Sof X w0 Lw w
  h : K a w
theorem x_region {id : Nat} {l : List Oper} (f : Option Nat) (σ : List (Nat × Kd)) (Lw : List Chunk) (hm : P.follows .mixedOrders = true)
    (hok : (Region.noSelect l.toArray && Nat.beq σ.length l.toArray.size && (match f with | none => true | some g => Nat.blt g l.toArray.size) && okX l.toArray f false σ (Array.replicate l.toArray.size false)) = true) (hL : Lw.Sublist L)
    (h : ∀ a w, SS n T X w0 m L a w → XL P l.toArray Q X w0 Lw false σ a w) (hnd : (Q.ro.isNone || l.all (notDefer ·.op)) = true := by rfl) : ∀ a w, SS n T X w0 m L a w → CW P (Code.region id l.toArray true) Q a w :=
  fun a w hs => ⟨region_X f σ (Sof X w0 Lw) (Sof X w0 []) (fun w h => ⟨h.ch, h.has.sub (List.nil_sublist _)⟩) hm hok (by simpa using hnd) ⟨hs.ch.drew _, (hs.has.sub hL).drew _⟩ (h a w.drew ⟨hs.agr, hs.ch.drew _, hs.size, hs.has.drew _⟩).h⟩
theorem x_nil (h : ∀ a w, SS n T X w0 m L a w → EX Q .normal a w) : ∀ a w, SS n T X w0 m L a w → XL P ops Q X w0 Lw b0 [] a w := fun a w hs => ⟨by cases b0 <;> exact (h a w hs).h⟩
theorem x_q (ho : ops[i]? = some ⟨some d, op, ty, pos, af, none⟩) (hq : Qt P X w0 ⟨some d, op, ty, pos, af, none⟩ T (Lb b0 Lw) v) (hd : Nat.blt d n = true) (h : ∀ a w, SS n ((d, v) :: T) X w0 m L a w → XL P ops Q X w0 Lw b0 σ a w) :
    ∀ a w, SS n T X w0 m L a w → XL P ops Q X w0 Lw b0 ((i, .q) :: σ) a w :=
  fun a w hs => ⟨_, v, ho, .inl ⟨by simp [Region.wanted], fun w' hw' => by rw [Sof_b] at hw'; exact hq.h n a w' hs.agr hw'.1 hw'.2⟩, (h _ _ ⟨hs.agr.put v hd, hs.ch, hs.size, hs.has⟩).h⟩
theorem x_qg {j : Nat} {b want : Bool} (ho : ops[i]? = some ⟨some d, op, ty, pos, af, some (j, want)⟩) (hg : gd ops T j = some (.bool b)) (hb : (b == want) = true) (hq : Qt P X w0 ⟨some d, op, ty, pos, af, some (j, want)⟩ T (Lb b0 Lw) v) (hd : Nat.blt d n = true)
    (h : ∀ a w, SS n ((d, v) :: T) X w0 m L a w → XL P ops Q X w0 Lw b0 σ a w) : ∀ a w, SS n T X w0 m L a w → XL P ops Q X w0 Lw b0 ((i, .q) :: σ) a w :=
  fun a w hs => ⟨_, v, ho, .inl ⟨by simp only [Region.wanted, yielded_of hs.agr hg]; simp at hb; simp [hb], fun w' hw' => by rw [Sof_b] at hw'; exact hq.h n a w' hs.agr hw'.1 hw'.2⟩, (h _ _ ⟨hs.agr.put v hd, hs.ch, hs.size, hs.has⟩).h⟩
theorem x_skip {j : Nat} {b want : Bool} (ho : ops[i]? = some ⟨some d, op, ty, pos, af, some (j, want)⟩) (hg : gd ops T j = some (.bool b)) (hb : (b == want) = false) (hd : Nat.blt d n = true)
    (h : ∀ a w, SS n ((d, undef) :: T) X w0 m L a w → XL P ops Q X w0 Lw b0 σ a w) : ∀ a w, SS n T X w0 m L a w → XL P ops Q X w0 Lw b0 ((i, .q) :: σ) a w :=
  fun a w hs => ⟨_, undef, ho, .inr ⟨by simp only [Region.wanted, yielded_of hs.agr hg]; cases b <;> cases want <;> simp_all, rfl⟩, (h _ _ ⟨hs.agr.put undef hd, hs.ch, hs.size, hs.has⟩).h⟩
theorem x_n (ho : ops[i]? = some ⟨some d, op, ty, pos, af, none⟩) (hq : Qt P X w0 ⟨some d, op, ty, pos, af, none⟩ T [] v) (hd : Nat.blt d n = true) (h : ∀ a w, SS n ((d, v) :: T) X w0 m L a w → XL P ops Q X w0 Lw b0 σ a w) :
    ∀ a w, SS n T X w0 m L a w → XL P ops Q X w0 Lw b0 ((i, .n) :: σ) a w :=
  fun a w hs => ⟨_, v, ho, .inl ⟨by simp [Region.wanted], fun w' hw' => hq.h n a w' hs.agr hw'.1 hw'.2⟩, (h _ _ ⟨hs.agr.put v hd, hs.ch, hs.size, hs.has⟩).h⟩
theorem x_ng {j : Nat} {b want : Bool} (ho : ops[i]? = some ⟨some d, op, ty, pos, af, some (j, want)⟩) (hg : gd ops T j = some (.bool b)) (hb : (b == want) = true) (hq : Qt P X w0 ⟨some d, op, ty, pos, af, some (j, want)⟩ T [] v) (hd : Nat.blt d n = true)
    (h : ∀ a w, SS n ((d, v) :: T) X w0 m L a w → XL P ops Q X w0 Lw b0 σ a w) : ∀ a w, SS n T X w0 m L a w → XL P ops Q X w0 Lw b0 ((i, .n) :: σ) a w :=
  fun a w hs => ⟨_, v, ho, .inl ⟨by simp only [Region.wanted, yielded_of hs.agr hg]; simp at hb; simp [hb], fun w' hw' => hq.h n a w' hs.agr hw'.1 hw'.2⟩, (h _ _ ⟨hs.agr.put v hd, hs.ch, hs.size, hs.has⟩).h⟩
theorem x_nskip {j : Nat} {b want : Bool} (ho : ops[i]? = some ⟨some d, op, ty, pos, af, some (j, want)⟩) (hg : gd ops T j = some (.bool b)) (hb : (b == want) = false) (hd : Nat.blt d n = true)
    (h : ∀ a w, SS n ((d, undef) :: T) X w0 m L a w → XL P ops Q X w0 Lw b0 σ a w) : ∀ a w, SS n T X w0 m L a w → XL P ops Q X w0 Lw b0 ((i, .n) :: σ) a w :=
  fun a w hs => ⟨_, undef, ho, .inr ⟨by simp only [Region.wanted, yielded_of hs.agr hg]; cases b <;> cases want <;> simp_all, rfl⟩, (h _ _ ⟨hs.agr.put undef hd, hs.ch, hs.size, hs.has⟩).h⟩
theorem x_e (ho : ops[i]? = some ⟨dst, op, ty, pos, af, none⟩) (h : ∀ a w, SS n T X w0 m L a w → OW P ⟨dst, op, ty, pos, af, none⟩ (XK X w0 (Lb b0 Lw) (XL P ops Q X w0 Lw b0 σ)) (NoPO Q.den) a w) :
    ∀ a w, SS n T X w0 m L a w → XL P ops Q X w0 Lw b0 ((i, .e) :: σ) a w := by
  intro a w hs
  refine ⟨?_⟩
  unfold LX wpOp
  simp only [ho]
  rw [if_pos (by simp [Region.wanted])]
  exact .inl (Oper.wp_mono (fun a w h => ⟨by rw [Sof_b]; exact h.s, h.h.h⟩) (h a w hs).h)
theorem x_eg {j : Nat} {b want : Bool} (ho : ops[i]? = some ⟨dst, op, ty, pos, af, some (j, want)⟩) (hg : gd ops T j = some (.bool b)) (hb : (b == want) = true) (h : ∀ a w, SS n T X w0 m L a w → OW P ⟨dst, op, ty, pos, af, some (j, want)⟩ (XK X w0 (Lb b0 Lw) (XL P ops Q X w0 Lw b0 σ)) (NoPO Q.den) a w) :
    ∀ a w, SS n T X w0 m L a w → XL P ops Q X w0 Lw b0 ((i, .e) :: σ) a w := by
  intro a w hs
  refine ⟨?_⟩
  unfold LX wpOp
  simp only [ho]
  rw [if_pos (by simp only [Region.wanted, yielded_of hs.agr hg]; simp at hb; simp [hb])]
  exact .inl (Oper.wp_mono (fun a w h => ⟨by rw [Sof_b]; exact h.s, h.h.h⟩) (h a w hs).h)
theorem x_eskip {j : Nat} {b want : Bool} (hL : (Lb b0 Lw).Sublist L) (ho : ops[i]? = some ⟨some d, op, ty, pos, af, some (j, want)⟩) (hg : gd ops T j = some (.bool b)) (hb : (b == want) = false) (hd : Nat.blt d n = true) (h : ∀ a w, SS n ((d, undef) :: T) X w0 m L a w → XL P ops Q X w0 Lw b0 σ a w) :
    ∀ a w, SS n T X w0 m L a w → XL P ops Q X w0 Lw b0 ((i, .e) :: σ) a w := by
  intro a w hs
  refine ⟨?_⟩
  unfold LX wpOp
  simp only [ho]
  rw [if_neg (by simp only [Region.wanted, yielded_of hs.agr hg]; cases b <;> cases want <;> simp_all)]
  exact ⟨by rw [Sof_b]; exact ⟨hs.ch, hs.has.sub hL⟩, (h _ _ ⟨hs.agr.put undef hd, hs.ch, hs.size, hs.has⟩).h⟩
theorem x_b (ho : ops[i]? = some ⟨dst, op, ty, pos, af, none⟩) (h : ∀ a w, SS n T X w0 m L a w → OW P ⟨dst, op, ty, pos, af, none⟩ (XK X w0 [] (XL P ops Q X w0 Lw true σ)) (NoPO Q.den) a w) :
    ∀ a w, SS n T X w0 m L a w → XL P ops Q X w0 Lw b0 ((i, .b) :: σ) a w := by
  intro a w hs
  refine ⟨?_⟩
  unfold LX wpOp
  simp only [ho]
  rw [if_pos (by simp [Region.wanted])]
  exact .inl (Oper.wp_mono (fun a w h => ⟨h.s, h.h.h⟩) (h a w hs).h)
theorem x_k {K : Act → World → Prop} (hL : Lw.Sublist L) (h : ∀ a w, SS n T X w0 m L a w → K a w) : ∀ a w, SS n T X w0 m L a w → XK X w0 Lw K a w :=
  fun a w hs => ⟨⟨hs.ch, hs.has.sub hL⟩, h a w hs⟩
end
end Go.Proofs.YtgmghkakiocmjaaGreatDoor
namespace Go.Proofs.YtgmghkakiocmjaaGreatDoor
open Go
theorem range_all {α : Type} [BEq α] [LawfulBEq α] (z : α) (xs ys : List α) (h : xs.length = ys.length) : ((List.range xs.length).all fun i => xs.getD i z == ys.getD i z) = (xs == ys) := by
  rw [Bool.eq_iff_iff]
  simp only [List.all_eq_true, List.mem_range, beq_iff_eq]
  constructor
  · intro H
    refine List.ext_getElem h fun i h1 h2 => ?_
    have := H i h1
    simpa [List.getD, h1, h2] using this
  · rintro rfl i _; rfl
section
variable {P : Program} (w : World)
theorem run_equalIn_row {α : Type} [BEq α] [LawfulBEq α] (z : α) (mk : α → Value) (d : Nat) (t e : TypeId) (n : Nat) (ht : P.underlying t = some (.array n e)) (hsz : ∀ w, (sizeOf e).run P w = .ok 1 w)
    (hpart : ∀ (cs : Array Value) (i : Nat) (x : α) (w : World), cs[i]? = some (mk x) → (part e cs i).run P w = .ok (mk x) w)
    (heq : ∀ (x y : α) (w : World), (Op.equalIn (d + 1) e (mk x) (mk y)).run P w = .ok (x == y) w)
    (xs ys : List α) (hx : xs.length = n) (hy : ys.length = n) :
    (Op.equalIn (d + 2) t (.agg (xs.map mk).toArray) (.agg (ys.map mk).toArray)).run P w = .ok (xs == ys) w := by
  rw [← range_all z xs ys (hx.trans hy.symm), hx, List.range_eq_range', Op.equalIn]
  simp only [Sem.run_bind, run_underlying ht, Result.andThen_ok, hsz, Std.Legacy.Range.forIn_eq_forIn_range', Std.Legacy.Range.size, Nat.sub_zero, Nat.add_sub_cancel, Nat.div_one]
  have hl : ∀ i ∈ List.range' 0 n 1, i < n := fun i hi => by simpa using (List.mem_range'_1.1 hi).2
  generalize List.range' 0 n 1 = l at hl ⊢
  induction l with
  | nil => simp
  | cons i l ih =>
    have hi : i < n := hl i (by simp)
    have px := hpart (xs.map mk).toArray (i * 1) (xs.getD i z) w (by simp [List.getD, show i < xs.length by omega])
    have py := hpart (ys.map mk).toArray (i * 1) (ys.getD i z) w (by simp [List.getD, show i < ys.length by omega])
    simp only [List.forIn_cons, Sem.run_bind, px, py, heq, Result.andThen_ok, List.all_cons]
    cases hb : (xs.getD i z == ys.getD i z)
    · simp
    · simp only [Bool.not_true, Bool.false_eq_true, if_false, Sem.run_pure, Result.andThen_ok, Bool.true_and]
      exact ih fun j hj => hl j (by simp [hj])
theorem run_equalIn_ints (d : Nat) (t e : TypeId) (n : Nat) (k : IntKind) (ht : P.underlying t = some (.array n e)) (he : P.underlying e = some (.int k)) (hsz : ∀ w, (sizeOf e).run P w = .ok 1 w)
    (xs ys : List Int) (hx : xs.length = n) (hy : ys.length = n) :
    (Op.equalIn (d + 2) t (.agg (xs.map (Value.int k)).toArray) (.agg (ys.map (Value.int k)).toArray)).run P w = .ok (xs == ys) w :=
  run_equalIn_row w 0 (Value.int k) d t e n ht hsz (fun cs i x w h => by simp [part, isAgg, run_underlying he, h]) (fun x y w => run_equalIn_int w d e k k x y he) xs ys hx hy
theorem run_neq_ints (t e : TypeId) (n : Nat) (k : IntKind) (ht : P.underlying t = some (.array n e)) (he : P.underlying e = some (.int k)) (hsz : ∀ w, (sizeOf e).run P w = .ok 1 w)
    (xs ys : List Int) (hx : xs.length = n) (hy : ys.length = n) :
    (binOp .neq t (.agg (xs.map (Value.int k)).toArray) (.agg (ys.map (Value.int k)).toArray)).run P w = .ok (.bool (xs != ys)) w := by
  rw [run_neq_struct, run_equalIn_ints w 9998 t e n k ht he hsz xs ys hx hy]
  rfl
end
end Go.Proofs.YtgmghkakiocmjaaGreatDoor
namespace Go.Proofs.YtgmghkakiocmjaaGreatDoor
open Go Go.RowKit
set_option linter.unusedVariables false
section
variable {P : Program} {n m d : Nat} {T : List (Nat × Value)} {X : List Nat} {w0 : World} {L L' : List Chunk} {K : Act → World → Prop} {Q : Exit → Act → World → Prop}
  {ty t e tt : TypeId} {pos : String} {af : Array Edge} {gu : Option (Nat × Bool)} {u v v1 v2 : Value} {x y c : Operand} {g off : Nat} {dst : Option Tmp}
abbrev RU (v : Value) (g : Nat) (o : Obj) (w : World) : Ending → World → Prop := Ret (fun _ : Unit => v) [g] (fun _ => [.blk g o]) (fun _ => True) w
theorem e_call_upd {fop : Operand} {xs : List Operand} {ats : Array TypeId} {f : FuncId} {vs : List Value} {o o' : Obj}
    (hf : ev T fop = some (.func (.func f) #[] #[])) (hargs : evs T xs = some vs) (hb : bodied P f = true) (hd : Nat.blt d n = true)
    (hcon : ∀ w, Ch X w0 w → w.heap.size = m → Has L w → CA P f vs w (RU v g o' w))
    (hp : Pl (.blk g o) (.blk g o') L L') (hg : g ∈ X ∨ w0.heap.size ≤ g)
    (h : ∀ m', m ≤ m' → ∀ a w, SS n ((d, v) :: T) X w0 m' L' a w → K a w) :
    ∀ a w, SS n T X w0 m L a w → OW P ⟨some d, .call { callee := .value fop, args := xs.toArray, argTypes := ats }, ty, pos, af, gu⟩ K Q a w := by
  intro a w hs
  refine wp_call_of rfl (hs.agr.eval hf) (hs.agr.evals hargs) hb (by simpa using (hcon w hs.ch hs.size hs.has).h) ?_
  rintro e w' ⟨_, rfl, hch, hN, hnew, _⟩
  refine ⟨_, rfl, h w'.heap.size (by have := hch.size; have := hs.size; omega) _ _ ⟨hs.agr.put _ hd, hs.ch.call hch (by simpa using hg), rfl, ?_⟩⟩
  exact Has.repl hp hs.has (fun k hk => .inl hk) (hN.ok _ (List.mem_singleton_self _)) fun k hk hne => hch.block k hk (by simpa [Chunk.foot] using hne)
theorem q_neq_ints {len : Nat} {k : IntKind} {xs ys : List Int} {ty2 : TypeId} {c1 c2 : Array Value} (hx : ev T x = some (.agg c1)) (hy : ev T y = some (.agg c2)) (h1 : c1 = (xs.map (Value.int k)).toArray) (h2 : c2 = (ys.map (Value.int k)).toArray) [hu : UT P t (.array len e)] [he : UT P e (.int k)] [hs : SzT P e 1] (hgd : P.eqGuardType P.depth t = false) (hl1 : xs.length = len) (hl2 : ys.length = len) :
    Qt P X w0 ⟨dst, .binOp .neq t x y ty2, ty, pos, af, gu⟩ T L (.bool (xs != ys)) := by
  subst h1; subst h2
  exact q_bin_val hx hy (fun w => run_eqGuard_agg w _ t x y _ _ hgd) fun w => run_neq_ints w t e len k hu.h he.h (fun w => size_one) xs ys hl1 hl2
/-! ### literals -/
def evp (T : List (Nat × Value)) : List (Nat × Operand) → Option (List (Nat × Value))
  | [] => some []
  | (i, x) :: xs => match ev T x, evp T xs with
    | some v, some vs => some ((i, v) :: vs)
    | _, _ => none
theorem Agr.evalp {n : Nat} {T : List (Nat × Value)} {a : Act} (h : Agr n T a) : ∀ {xs : List (Nat × Operand)} {vs : List (Nat × Value)}, evp T xs = some vs → (xs.toArray.map fun (i, x) => (i, a.eval x)).toList = vs
  | [], vs, hx => by simp [evp] at hx; simp [hx]
  | (i, x) :: xs, vs, hx => by
    simp only [evp] at hx
    split at hx
    · rename_i v us h1 h2
      simp only [Option.some.injEq] at hx
      subst hx
      have := h.evalp h2
      simp only [List.map_toArray] at this ⊢
      rw [List.map_cons, h.eval h1, this]
    · simp at hx
def setLs : List Value → Nat → List Value → List Value
  | l, _, [] => l
  | l, o, v :: vs => setLs (setL l o v) (o + 1) vs
theorem setLs_arr : ∀ (vs l : List Value) (o : Nat), (setLs l o vs).toArray = setA l.toArray o vs
  | [], _, _ => rfl
  | v :: vs, l, o => by rw [setLs, setLs_arr vs, setA, setL_eq]; simp
def plOff : Option (Nat × Nat) → Nat
  | some (o, _) => o
  | none => 0
def fillC (place : Nat → Option (Nat × Nat)) : List Value → List (Nat × Value) → List Value
  | l, [] => l
  | l, (i, v) :: r => fillC place (setLs l (plOff (place i)) v.cells.toList) r
def fillOk (place : Nat → Option (Nat × Nat)) (k : Nat) : List (Nat × Value) → Bool
  | [] => true
  | (i, v) :: r => (match place i with | some (o, s) => Nat.beq v.cells.size s && Nat.ble (o + s) k | none => false) && fillOk place k r
theorem fold_setA : ∀ (vs : List Value) (cs : Array Value) (o : Nat), vs.toArray.zipIdx.foldl (fun cs (c, j) => cs.setIfInBounds (o + j) c) cs = setA cs o vs := by
  intro vs cs o
  have key : ∀ (vs : List Value) (k : Nat) (cs : Array Value), (vs.zipIdx k).foldl (fun cs (c, j) => cs.setIfInBounds (o + j) c) cs = setA cs (o + k) vs := by
    intro vs
    induction vs with
    | nil => intro k cs; rfl
    | cons v vs ih => intro k cs; rw [List.zipIdx_cons, List.foldl_cons, ih, setA]; rfl
  simpa using key vs 0 cs
theorem fill_of {place : Nat → Option (Nat × Nat)} : ∀ (pv : List (Nat × Value)) (l : List Value), fillOk place l.length pv = true → Instr.fill place l.toArray pv = some (fillC place l pv).toArray
  | [], l, _ => rfl
  | (i, v) :: r, l, h => by
    simp only [fillOk, Bool.and_eq_true] at h
    obtain ⟨h1, h2⟩ := h
    unfold Instr.fill fillC
    cases hp : place i with
    | none => simp [hp] at h1
    | some p =>
      obtain ⟨o, s⟩ := p
      simp only [hp, Bool.and_eq_true] at h1
      have e1 := Nat.eq_of_beq_eq_true h1.1
      have e2 := Nat.le_of_ble_eq_true h1.2
      simp only [plOff]
      rw [if_neg (by simp [e1]; omega)]
      have e3 := fold_setA v.cells.toList l.toArray o
      simp only [Array.toArray_toList] at e3
      rw [e3, ← setLs_arr]
      refine fill_of r _ ?_
      have : (setLs l o v.cells.toList).length = l.length := by
        have := congrArg Array.size (setLs_arr v.cells.toList l o)
        rw [setA_size] at this
        simpa using this
      rw [this]; exact h2
def placeA (sz i : Nat) : Option (Nat × Nat) := some (i * sz, sz)
def nthP : List (Nat × Nat) → Nat → Option (Nat × Nat)
  | [], _ => none
  | p :: _, 0 => some p
  | _ :: l, i + 1 => nthP l i
theorem nthP_eq : ∀ (l : List (Nat × Nat)) (i : Nat), nthP l i = l[i]?
  | [], _ => rfl
  | _ :: _, 0 => rfl
  | _ :: l, i + 1 => by rw [nthP, nthP_eq l i]; rfl
def placesOf (P : Program) (t : TypeId) : Option (List (Nat × Nat)) :=
  match P.underlying t with
  | some (.struct fs) => fs.toList.mapM fun f => (P.info? f.type).map fun i => (f.offset, i.size)
  | _ => none
class PlT (P : Program) (t : TypeId) (ps : outParam (List (Nat × Nat))) : Prop where
  h : placesOf P t = some ps
theorem zeroOf_spec {cs : Array Value} (h : zeroOf P t = some cs) : ∃ it z, P.info? t = some it ∧ it.zero = some z ∧ z.cells = cs := by
  unfold zeroOf at h
  rw [Option.map_eq_some_iff] at h
  obtain ⟨z, h1, h2⟩ := h
  rw [Option.bind_eq_some_iff] at h1
  obtain ⟨i, hi, hz⟩ := h1
  exact ⟨i, z, hi, hz, h2⟩
theorem q_build_of {ps : List (Nat × Operand)} {pv : List (Nat × Value)} {cells : Array Value} (hp : evp T ps = some pv) (hb : P.built t pv = some cells) : Qt P X w0 ⟨dst, .build t ps.toArray, ty, pos, af, gu⟩ T L (.agg cells) := by
  refine ⟨?_⟩
  intro n ac w hA hC hL
  have h := run_build (P := P) w t (ps.toArray.map fun (i, x) => (i, ac.eval x)) cells (by rw [hA.evalp hp]; exact hb)
  simp only [execOp, Sem.run_bind, h, Result.andThen_ok, Sem.run_pure]
theorem q_build_struct {ps : List (Nat × Operand)} {pv : List (Nat × Value)} {fs : Array Field} {pl : List (Nat × Nat)} {zs : Array Value} {l l' : List Value} (hp : evp T ps = some pv) [hu : UT P t (.struct fs)] [hs : PlT P t pl] [hz : ZrT P t zs] (hl : zs.toList = l) (hf : fillC (nthP pl) l pv = l') (hok : fillOk (nthP pl) l.length pv = true) :
    Qt P X w0 ⟨dst, .build t ps.toArray, ty, pos, af, gu⟩ T L (.agg l'.toArray) := by
  refine q_build_of hp ?_
  obtain ⟨it, z, h1, h2, h3⟩ := zeroOf_spec hz.h
  have hs := hs.h
  simp only [placesOf, hu.h] at hs
  have h6 := fill_of pv l hok
  rw [hf, ← hl] at h6
  have e : (fun x => (pl.toArray)[x]?) = nthP pl := by funext i; simp [nthP_eq]
  simp only [Program.built, h1, hu.h, h2, hs, h3, e]
  simpa using h6
theorem e_buildSlice_of {ps : List (Nat × Operand)} {pv : List (Nat × Value)} {len sz : Nat} {z : Value} {l' : List Value} (hp : evp T ps = some pv) (hd : Nat.blt d n = true) [hu : UT P t (.slice e)] [hs : SzT P e sz] [hz : ZrT P e #[z]] (h1 : sz = 1) (hlen : (Nat.blt 0 len && Nat.ble len 1000000) = true) (hf : fillC (placeA 1) (List.replicate len z) pv = l') (hok : fillOk (placeA 1) len pv = true)
    (h : ∀ a w, SS n ((d, .slice (some ⟨m, 0, none⟩) len len) :: T) X w0 (m + 1) (.blk m (.cells l'.toArray e) :: L) a w → K a w) :
    ∀ a w, SS n T X w0 m L a w → OW P ⟨some d, .buildSlice t len ps.toArray, ty, pos, af, gu⟩ K Q a w := by
  subst h1
  intro a w hs'
  obtain ⟨hA, hC, rfl, hL⟩ := hs'
  obtain ⟨it, z', h1, h2, h3⟩ := zeroOf_spec hz.h
  have hs := hs.h
  rw [h1, Option.map_some, Option.some.injEq] at hs
  simp only [Bool.and_eq_true] at hlen
  have hl1 := lt_of_blt hlen.1
  have hl2 := Nat.le_of_ble_eq_true hlen.2
  have h6 := fill_of pv (List.replicate len z) (by simpa using hok)
  rw [hf] at h6
  have e0 : (Array.range len).map (fun i => z'.cells[i % z'.cells.size]!) = (List.replicate len z).toArray := by
    apply Array.ext
    · simp
    · intro i hi1 hi2; simp [h3, Nat.mod_one]
  have hr : (Instr.buildSlice t len (ps.toArray.map fun (i, x) => (i, a.eval x))).run P w = .ok (.slice (some ⟨w.heap.size, 0, none⟩) len len) (w.alloc (.cells l'.toArray e)) := by
    have h7 : Instr.fill (fun i => some (i, 1)) ((Array.range len).map (fun i => z'.cells[i % z'.cells.size]!)) (ps.toArray.map fun (i, x) => (i, a.eval x)).toList = some l'.toArray := by
      rw [e0, hA.evalp hp, ← h6]
      congr 1
      funext i; simp [placeA]
    have g1 : ¬ (len > 2 ^ 24) := by omega
    have g2 : ¬ (len = 0) := by omega
    simp only [Instr.buildSlice, Sem.run_bind, run_underlying hu.h, sizeOf, typeInfo, program, Sem.run, h1, Result.andThen_ok, hs, Nat.mul_one, if_neg g1, if_neg g2, zeroValue, h2, Sem.run_pure]
    simp only [h7]
    rfl
  refine wp_value (w' := w.alloc (.cells l'.toArray e)) (v := .slice (some ⟨w.heap.size, 0, none⟩) len len) ?_ (h _ _ ⟨hA.put _ hd, hC.alloc _, by simp, hL.alloc _⟩)
  simp only [execOp, Sem.run_bind, hr, Result.andThen_ok, Sem.run_pure]
end
end Go.Proofs.YtgmghkakiocmjaaGreatDoor
namespace Go.Proofs.YtgmghkakiocmjaaGreatDoor
open Go Go.RowKit
set_option linter.unusedVariables false
section
variable {P : Program} {n m d : Nat} {T : List (Nat × Value)} {X : List Nat} {w0 : World} {L : List Chunk} {ops : Array Oper} {rest : List Oper} {Q : Ct} {K : Act → World → Prop}
  {ty : TypeId} {pos : String} {af : Array Edge} {x : Code}
/-! ### the caller's side -/
theorem Ch.putObj {X : List Nat} {a b : World} (h : Ch X a b) {l : Nat} (hl : l ∈ X ∨ a.heap.size ≤ l) (o : Obj) : Ch X a (b.putObj l o) :=
  h.call (Y := [l]) ⟨rfl, rfl, rfl, by simp, fun k _ hk => World.putObj_heap_other (by simpa using hk)⟩ (by simpa using hl)
end
end Go.Proofs.YtgmghkakiocmjaaGreatDoor
namespace Go.Proofs.YtgmghkakiocmjaaGreatDoor
open Go Go.RowKit
set_option linter.unusedVariables false
inductive Rm (c : Chunk) : List Chunk → List Chunk → Prop
  | here {R : List Chunk} : Rm c (c :: R) R
  | there {d : Chunk} {R R' : List Chunk} (h : Rm c R R') : Rm c (d :: R) (d :: R')
theorem Rm.split {c : Chunk} {L L' : List Chunk} (h : Rm c L L') : ∃ A B, L = A ++ c :: B ∧ L' = A ++ B := by
  induction h with
  | @here R => exact ⟨[], R, rfl, rfl⟩
  | @there d R R' _ ih => obtain ⟨A, B, h1, h2⟩ := ih; exact ⟨d :: A, B, by simp [h1], by simp [h2]⟩
theorem Rm.mem {c : Chunk} {L L' : List Chunk} (h : Rm c L L') : c ∈ L := by obtain ⟨A, B, rfl, _⟩ := h.split; simp
theorem Rm.sub {c : Chunk} {L L' : List Chunk} (h : Rm c L L') : L'.Sublist L := by
  obtain ⟨A, B, rfl, rfl⟩ := h.split
  exact List.Sublist.append_left (List.sublist_cons_self _ _) _
theorem Rm.apart {c : Chunk} {L L' : List Chunk} {w : World} (h : Rm c L L') (hL : Has L w) : ∀ g ∈ c.foot, g ∉ feet L' := by
  obtain ⟨A, B, rfl, rfl⟩ := h.split
  have hap := hL.apart
  rw [feet_append] at hap
  simp only [feet, List.flatMap_cons] at hap
  intro g hg hm
  rw [feet_append] at hm
  obtain ⟨n1, n2, n3⟩ := List.nodup_append.1 hap
  obtain ⟨m1, m2, m3⟩ := List.nodup_append.1 n2
  rcases List.mem_append.1 hm with h | h
  · exact n3 g h g (List.mem_append_left _ hg) rfl
  · exact m3 g hg g h rfl
def OB (b : Option Addr) (xs : List Value) : Prop := (b = none ∧ xs = []) ∨ ∃ g, b = some ⟨g, 0, none⟩
section
variable {P : Program} {n m d : Nat} {T : List (Nat × Value)} {X : List Nat} {w0 : World} {L L' : List Chunk} {K : Act → World → Prop} {Q : Exit → Act → World → Prop}
  {ty t e : TypeId} {pos : String} {af : Array Edge} {gu : Option (Nat × Bool)} {x y : Operand}
theorem q_extractn {dst : Option Tmp} {i : Nat} {vs : List Value} {v : Value} (hx : ev T x = some (.tuple vs.toArray)) (hv : nth vs i = some v) : Qt P X w0 ⟨dst, .extract x i, ty, pos, af, gu⟩ T L v :=
  q_extract hx (by rw [nth_eq] at hv; simpa using hv)
theorem Has.perm {L L' : List Chunk} {w : World} (h : Has L w) (hp : L.Perm L') : Has L' w :=
  ⟨fun c hc => h.ok c (hp.mem_iff.2 hc), (List.Perm.flatMap_right _ hp).nodup_iff.1 h.apart⟩
theorem prm {F : Act → World → Prop} (hp : L.Perm L') (h : ∀ a w, SS n T X w0 m L' a w → F a w) : ∀ a w, SS n T X w0 m L a w → F a w :=
  fun a w hs => h a w ⟨hs.agr, hs.ch, hs.size, hs.has.perm hp⟩
theorem q_makeFunc {dst : Option Tmp} {k : Nat} {xs ys : List Operand} {vs us : List Value} (hx : evs T xs = some vs) (hy : evs T ys = some us) : Qt P X w0 ⟨dst, .makeFunc (.func k) xs.toArray ys.toArray, ty, pos, af, gu⟩ T L (.func (.func k) vs.toArray us.toArray) := by
  refine ⟨?_⟩
  intro n ac w hA hC hL
  simp [execOp, Instr.makeFunc, ← hA.evals hx, ← hA.evals hy]
theorem e_append {b : Option Addr} {len cap sz bytes len2 cap2 : Nat} {xs news : List Value} {p : Addr} {zs : Array Value} (hx : ev T x = some (.slice b len cap)) (hy : ev T y = some (.slice (some p) len2 cap2)) (hd : Nat.blt d n = true)
    [hu : UT P t (.slice e)] [hs : SzT P e sz] [hb : ByT P e bytes] [hz : ZrT P e zs] (hzs : (Nat.beq zs.size sz && Nat.blt 0 sz) = true) (hr : Rm (.sl b cap e sz xs) L L') (hv : RdN X w0 L p news)
    (hlen : xs.length = len * sz) (hl2 : news.length = len2 * sz) (hcl : len ≤ cap) (hcap : cap ≤ 9223372036854775807) (hone : allOne news = true) (hsum : len + len2 ≤ 9223372036854775807) (hby : (len + len2) * bytes ≤ 140737488355328)
    (hg : ∀ g ∈ (Chunk.sl b cap e sz xs).foot, g ∈ X ∨ w0.heap.size ≤ g)
    (h : ∀ b' cap' m', (∀ g ∈ (Chunk.sl b' cap' e sz (xs ++ news)).foot, g ∈ X ∨ w0.heap.size ≤ g) → len + len2 ≤ cap' → cap' ≤ 9223372036854775807 → m ≤ m' → OB b' (xs ++ news) → ∀ a w, SS n ((d, .slice b' (len + len2) cap') :: T) X w0 m' (.sl b' cap' e sz (xs ++ news) :: L') a w → K a w) :
    ∀ a w, SS n T X w0 m L a w → OW P ⟨some d, .call { callee := .builtin .append, args := #[x, y], argTypes := #[t, t] }, ty, pos, af, gu⟩ K Q a w := by
  intro a w hs'
  obtain ⟨hA, hC, rfl, hL⟩ := hs'
  simp only [Bool.and_eq_true] at hzs
  obtain ⟨it, z, h1, h2, h3⟩ := zeroOf_spec hz.h
  have hs1 := hs.h
  have hb1 := hb.h
  simp only [h1, Option.map_some, Option.some.injEq] at hs1 hb1
  have hok := hL.ok _ hr.mem
  simp only [Chunk.ok] at hok
  have hown : w.ownsRow 0 e sz (.slice b len cap) len xs := by
    refine ⟨hlen, ?_⟩
    rcases hok with ⟨rfl, rfl, rfl⟩ | ⟨g, cs, rfl, h4, h5, h6⟩
    · have : len = 0 := by omega
      subst this
      exact .inl ⟨rfl, rfl⟩
    · exact .inr ⟨g, cap, cs, rfl, Nat.zero_le _, h4, hcl, by simpa [maxLen] using hcap, h5, by rw [← hlen]; exact h6⟩
  obtain ⟨v', w', hrun, ho', hgr, _, hob⟩ := run_append_own_at (P := P) w 0 t ty e it z sz bytes hu.h h1 h2 hs1 hb1 (by rw [h3]; exact Nat.eq_of_beq_eq_true hzs.1) (lt_of_blt hzs.2) (.slice b len cap) len xs hown p len2 cap2 news hl2 (hv.cells hC hL) (allOne_mem hone) (by simpa [maxLen] using hsum) hby (Nat.zero_le _)
  have hC' : Ch X w0 w' := hC.call (Y := (Chunk.sl b cap e sz xs).foot) ⟨hgr.os, hgr.tape, hgr.output, hgr.size, fun k hk hne => hgr.block k hk (by
    intro e1
    apply hne
    cases b with
    | none => simp [Value.ownBlock] at e1
    | some q => simp [Value.ownBlock] at e1; simp [Chunk.foot, e1])⟩ hg
  have hL2 : Has L' w' := (hL.sub hr.sub).congr fun k hk => hgr.block k ((hL.sub hr.sub).lt k hk) fun e1 => by
    cases b with
    | none => simp [Value.ownBlock] at e1
    | some q => simp [Value.ownBlock] at e1; exact hr.apart hL k (by simp [Chunk.foot, e1]) hk
  have key : ∀ (b' : Option Addr) (cap' : Nat), v' = .slice b' (len + len2) cap' → (Chunk.sl b' cap' e sz (xs ++ news)).ok w' → len + len2 ≤ cap' → cap' ≤ 9223372036854775807 → OB b' (xs ++ news) → OW P ⟨some d, .call { callee := .builtin .append, args := #[x, y], argTypes := #[t, t] }, ty, pos, af, gu⟩ K Q a w := by
    intro b' cap' hv' hk' hc1 hc2 hOB
    have hfoot : ∀ g ∈ (Chunk.sl b' cap' e sz (xs ++ news)).foot, g ∈ (Chunk.sl b cap e sz xs).foot ∨ w.heap.size ≤ g := by
      intro g hg'
      cases b' with
      | none => simp [Chunk.foot] at hg'
      | some q =>
        simp [Chunk.foot] at hg'
        subst hg'
        rw [hv'] at hob
        rcases hob with h8 | h8
        · cases b with
          | none => simp [Value.ownBlock] at h8
          | some q' => simp [Value.ownBlock] at h8; exact .inl (by simp [Chunk.foot, h8])
        · simp [Value.ownBlock] at h8; exact .inr (by omega)
    refine wp_value (w' := w') (v := v') ?_ (hv' ▸ h b' cap' w'.heap.size (fun g hg' => (hfoot g hg').elim (hg g) (fun h9 => .inr (by have := hC.size; omega))) hc1 hc2 hgr.size hOB _ _ ⟨?_, hC', rfl, ?_⟩)
    · simp only [execOp, resolve, Sem.run_bind, Sem.run_pure, Result.andThen_ok, invoke, List.map_toArray, List.map_cons, List.map_nil, hA.eval hx, hA.eval hy, builtin, hrun]
    · exact hv' ▸ hA.put _ hd
    · refine hL2.cons hk' (fun g hg' hm => ?_) (foot_nodup _)
      rcases hfoot g hg' with h9 | h9
      · exact hr.apart hL g h9 hm
      · have := (hL.sub hr.sub).lt g hm; omega
  rcases ho'.2 with ⟨hv', h0⟩ | ⟨g, cap', cur, hv', _, hc, hn, hm, hcs, htk⟩
  · have hnil : xs ++ news = [] := by
      have h9 := ho'.1
      rw [h0, Nat.zero_mul] at h9
      exact List.eq_nil_of_length_eq_zero h9
    refine key none 0 (by rw [hv', h0]) (.inl ⟨rfl, rfl, hnil⟩) (by omega) (by omega) (.inl ⟨rfl, hnil⟩)
  · refine key (some ⟨g, 0, none⟩) cap' hv' (.inr ⟨g, cur, rfl, hc, hcs, ?_⟩) hn (by simpa [maxLen] using hm) (.inr ⟨g, rfl⟩)
    rw [ho'.1]; exact htk
theorem wk_sl {F : Act → World → Prop} {b : Option Addr} {cap sz : Nat} {xs : List Value} (k : Nat) (hp : Pl (.sl b cap e sz xs) (.sl b cap e sz (xs.take k)) L L') (h : ∀ a w, SS n T X w0 m L' a w → F a w) : ∀ a w, SS n T X w0 m L a w → F a w := by
  intro a w hs
  have hk := hs.has.ok _ hp.mem
  refine h a w ⟨hs.agr, hs.ch, hs.size, Has.repl hp hs.has (fun g hg => .inl (by cases b <;> exact hg)) ?_ (fun _ _ _ => rfl)⟩
  simp only [Chunk.ok] at hk ⊢
  rcases hk with ⟨h1, h2, h3⟩ | ⟨g, cs, h1, h2, h3, h4⟩
  · exact .inl ⟨h1, h2, by simp [h3]⟩
  · refine .inr ⟨g, cs, h1, h2, h3, ?_⟩
    rw [List.length_take]
    rw [← List.take_take, h4]
theorem Vw.own {b : Option Addr} {cap sz : Nat} {xs : List Value} (hb : OB b xs) (hm : Chunk.sl b cap e sz xs ∈ L) : Vw X w0 L b xs := by
  rcases hb with ⟨h1, h2⟩ | ⟨g, rfl⟩
  · exact .inl ⟨h1, h2⟩
  · exact .inr ⟨_, rfl, RdN.sl hm (by simp)⟩
end
end Go.Proofs.YtgmghkakiocmjaaGreatDoor
namespace Go.Proofs.YtgmghkakiocmjaaGreatDoor
open Go Go.RowKit
set_option linter.unusedVariables false
section
variable {P : Program} {n m d : Nat} {T : List (Nat × Value)} {X : List Nat} {w0 : World} {L L' : List Chunk} {K : Act → World → Prop} {Q : Exit → Act → World → Prop}
  {ty t t2 e tt : TypeId} {pos : String} {af : Array Edge} {gu : Option (Nat × Bool)} {x y : Operand}
theorem e_copy {g o dl dc sl sc : Nat} {p : Addr} {cs : Array Value} {news : List Value} (hx : ev T x = some (.slice (some ⟨g, o, none⟩) dl dc)) (hy : ev T y = some (.slice (some p) sl sc)) (hd : Nat.blt d n = true) [hu : UT P t (.slice e)] [hs : SzT P e 1]
    (hv : RdN X w0 L p news) (hn : news.length = min sl dl) (hone : allOne news = true) (hp : Pl (.blk g (.cells cs tt (0, 0))) (.blk g (.cells (setA cs o news) tt (0, 0))) L L') (ho : o + news.length ≤ cs.size) (hg : g ∈ X ∨ w0.heap.size ≤ g) {k : Nat} (hk : news.length = k)
    (h : ∀ a w, SS n ((d, .int .i64 k) :: T) X w0 m L' a w → K a w) :
    ∀ a w, SS n T X w0 m L a w → OW P ⟨some d, .call { callee := .builtin .copy, args := #[x, y], argTypes := #[t, t2] }, ty, pos, af, gu⟩ K Q a w := by
  subst hk
  intro a w hs'
  obtain ⟨hA, hC, rfl, hL⟩ := hs'
  have hb := hL.ok _ hp.mem
  simp only [Chunk.ok] at hb
  have hth := there_of hb ho
  have hr := run_copy_cells (P := P) w t t2 ty e g o dl dc p sl sc news hu.h hs.h hn (hv.cells hC hL) (fun j hj => (hth j hj).1) (fun j hj => (hth j hj).2) (allOne_mem hone)
  refine wp_value (w' := w.setCells g o news) (v := .int .i64 news.length) ?_ (h _ _ ⟨hA.put _ hd, hC.setCells hg _ _, size_setCells _ _ _, Has.repl hp hL (fun k hk => .inl hk) (cellsOf_setCells _ _ _ _ hb) (fun k _ hk => heap_setCells _ _ _ k (by simpa [Chunk.foot] using hk))⟩)
  simp only [execOp, resolve, Sem.run_bind, Sem.run_pure, Result.andThen_ok, invoke, List.map_toArray, List.map_cons, List.map_nil, hA.eval hx, hA.eval hy, builtin, hr, goInt]
theorem e_copy_none {b1 b2 : Option Addr} {dl dc sl sc : Nat} (hx : ev T x = some (.slice b1 dl dc)) (hy : ev T y = some (.slice b2 sl sc)) (hd : Nat.blt d n = true) [hu : UT P t (.slice e)] [hs : SzT P e 1] (hn : min sl dl = 0)
    (h : ∀ a w, SS n ((d, .int .i64 0) :: T) X w0 m L a w → K a w) :
    ∀ a w, SS n T X w0 m L a w → OW P ⟨some d, .call { callee := .builtin .copy, args := #[x, y], argTypes := #[t, t2] }, ty, pos, af, gu⟩ K Q a w := by
  intro a w hs'
  obtain ⟨hA, hC, rfl, hL⟩ := hs'
  have hr := run_copy_none (P := P) w t t2 ty e b1 b2 dl dc sl sc hu.h hs.h hn
  refine wp_value (w' := w) (v := .int .i64 0) ?_ (h _ _ ⟨hA.put _ hd, hC, rfl, hL⟩)
  simp only [execOp, resolve, Sem.run_bind, Sem.run_pure, Result.andThen_ok, invoke, List.map_toArray, List.map_cons, List.map_nil, hA.eval hx, hA.eval hy, builtin, hr, goInt]
theorem e_buildSlice0 {sz : Nat} (hd : Nat.blt d n = true) [hu : UT P t (.slice e)] [hs : SzT P e sz]
    (h : ∀ a w, SS n ((d, .slice (some ⟨m, 0, none⟩) 0 0) :: T) X w0 (m + 1) (.sl (some ⟨m, 0, none⟩) 0 e sz [] :: L) a w → K a w) :
    ∀ a w, SS n T X w0 m L a w → OW P ⟨some d, .buildSlice t 0 #[], ty, pos, af, gu⟩ K Q a w := by
  intro a w hs'
  obtain ⟨hA, hC, rfl, hL⟩ := hs'
  have hs1 := hs.h
  rw [Option.map_eq_some_iff] at hs1
  obtain ⟨i, hi, rfl⟩ := hs1
  have h4 := hL.alloc (.cells #[] e)
  refine wp_value (w' := w.alloc (.cells #[] e)) (v := .slice (some ⟨w.heap.size, 0, none⟩) 0 0) ?_ (h _ _ ⟨hA.put _ hd, hC.alloc _, by simp, ?_⟩)
  · simp [execOp, Instr.buildSlice, run_underlying hu.h, sizeOf, typeInfo, hi, Instr.fill, newRow]
    congr 2
    apply Array.ext <;> simp
  · refine Has.repl (w := w.alloc _) (c := .blk w.heap.size _) .here h4 (fun k hk => .inl (by simpa [Chunk.foot] using hk)) (.inr ⟨w.heap.size, #[], rfl, h4.ok _ (List.mem_cons_self ..), by simp, by simp⟩) (fun _ _ _ => rfl)
theorem mapM_get {α β : Type} {F : α → Option β} : ∀ {l : List α} {pl : List β} {i : Nat} {b : β}, l.mapM F = some pl → pl[i]? = some b → ∃ f, l[i]? = some f ∧ F f = some b
  | [], pl, i, b, h, hi => by simp at h; subst h; simp at hi
  | f :: l, pl, i, b, h, hi => by
    simp only [List.mapM_cons, Option.bind_eq_bind, Option.pure_def] at h
    cases hf : F f with
    | none => simp [hf] at h
    | some c =>
      cases hr : l.mapM F with
      | none => simp [hf, hr] at h
      | some rest =>
        simp [hf, hr] at h
        subst h
        cases i with
        | zero => simp at hi; subst hi; exact ⟨f, rfl, hf⟩
        | succ j => simp at hi; obtain ⟨f', h1, h2⟩ := mapM_get hr hi; exact ⟨f', by simpa using h1, h2⟩
theorem q_fieldAddrP {dst : Option Tmp} {i g o off sz : Nat} {pl : List (Nat × Nat)} (hx : ev T x = some (.pointer (some ⟨g, o, none⟩))) [hs : PlT P t pl] (hp : nthP pl i = some (off, sz)) (hz : Nat.beq sz 0 = false) {o' : Nat} (ho : o + off = o') :
    Qt P X w0 ⟨dst, .fieldAddr t x i, ty, pos, af, gu⟩ T L (.pointer (some ⟨g, o', none⟩)) := by
  subst ho
  have h1 := hs.h
  unfold placesOf at h1
  cases hu : P.underlying t with
  | none => simp [hu] at h1
  | some de =>
    cases de <;> try (simp [hu] at h1; done)
    rename_i fs
    simp only [hu] at h1
    rw [nthP_eq] at hp
    obtain ⟨f, hf, hF⟩ := mapM_get h1 hp
    rw [Option.map_eq_some_iff] at hF
    obtain ⟨inf, hi, he⟩ := hF
    simp only [Prod.mk.injEq] at he
    obtain ⟨rfl, rfl⟩ := he
    haveI : UT P t (.struct fs) := ⟨hu⟩
    haveI : SzT P f.type inf.size := ⟨by simp [hi]⟩
    exact q_fieldAddr hx (by simpa using hf) hz
end
end Go.Proofs.YtgmghkakiocmjaaGreatDoor
namespace Go.Proofs.YtgmghkakiocmjaaGreatDoor
open Go Go.RowKit
set_option linter.unusedVariables false
structure SlE {α : Type} (enc : α → Value) (w : World) (b : Option Addr) (xs : List α) : Prop where
  h : xs = [] ∨ ∃ g o, b = some ⟨g, o, none⟩ ∧ Old w g o (xs.map enc)
structure OS (X : List Nat) (k : Nat) (b : Option Addr) (cap : Nat) (len : Nat) : Prop where
  le : len ≤ cap
  max : cap ≤ 9223372036854775807
  ob : (b = none ∧ len = 0) ∨ ∃ g, b = some ⟨g, 0, none⟩
  new : ∀ g ∈ (Chunk.sl b 0 0 1 []).foot, g ∈ X ∨ k ≤ g
theorem OS.nil (X : List Nat) (k : Nat) : OS X k none 0 0 := ⟨by omega, by omega, .inl ⟨rfl, rfl⟩, by simp [Chunk.foot]⟩
theorem OS.mono {X : List Nat} {k k' : Nat} {b : Option Addr} {cap len : Nat} (h : OS X k b cap len) (hk : k' ≤ k) : OS X k' b cap len :=
  ⟨h.le, h.max, h.ob, fun g hg => (h.new g hg).imp id (fun h => by omega)⟩
theorem OS.newc {X : List Nat} {k : Nat} {b : Option Addr} {cap len : Nat} (h : OS X k b cap len) {c2 e sz : Nat} {xs : List Value} : ∀ g ∈ (Chunk.sl b c2 e sz xs).foot, g ∈ X ∨ k ≤ g :=
  fun g hg => h.new g (by cases b <;> exact hg)
theorem OS.some {X : List Nat} {k : Nat} {b : Option Addr} {cap len : Nat} (h : OS X k b cap len) (hl : 0 < len) : ∃ g, b = .some ⟨g, 0, none⟩ := by
  rcases h.ob with ⟨_, h2⟩ | h
  · omega
  · exact h
theorem nth_map {α : Type} {enc : α → Value} {xs : List α} {i : Nat} {x : α} (h : xs[i]? = some x) : nth (xs.map enc) i = some (enc x) := by
  rw [nth_eq, List.getElem?_map, h]; rfl
theorem SlE.ch {α : Type} {enc : α → Value} {X : List Nat} {w w' : World} {b : Option Addr} {xs : List α} (h : SlE enc w b xs) (hC : Ch X w w') (hx : ∀ g o, b = some ⟨g, o, none⟩ → g ∉ X) : SlE enc w' b xs :=
  ⟨h.h.imp id fun ⟨g, o, e, hO⟩ => ⟨g, o, e, hO.ch hC (hx g o e)⟩⟩
theorem SlE.ch0 {α : Type} {enc : α → Value} {w w' : World} {b : Option Addr} {xs : List α} (h : SlE enc w b xs) (hC : Ch [] w w') : SlE enc w' b xs := h.ch hC (by simp)
theorem SlE.own {α : Type} {enc : α → Value} {L : List Chunk} {w : World} (hL : Has L w) {b : Option Addr} {cap e : Nat} {xs : List α} (hm : Chunk.sl b cap e 1 (xs.map enc) ∈ L) {X : List Nat} {k len : Nat} (ho : OS X k b cap len) : SlE enc w b xs := by
  refine ⟨?_⟩
  have h1 := hL.ok _ hm
  simp only [Chunk.ok] at h1
  rcases h1 with ⟨_, _, h3⟩ | ⟨g, cs, rfl, h2, h3, h4⟩
  · exact .inl (by simpa using h3)
  · exact .inr ⟨g, 0, rfl, hL.old_sl (k := (xs.map enc).length) hm (by rw [List.drop_zero, List.take_of_length_le (Nat.le_refl _)])⟩
theorem SlE.blk {α : Type} {enc : α → Value} {L : List Chunk} {w : World} (hL : Has L w) {g : Nat} {cs : Array Value} {t : TypeId} {fr : Nat × Nat} {xs : List α} (hm : Chunk.blk g (.cells cs t fr) ∈ L) (o k : Nat) (hv : (cs.toList.drop o).take k = xs.map enc) : SlE enc w (some ⟨g, o, none⟩) xs :=
  ⟨.inr ⟨g, o, rfl, hL.old (k := k) hm hv⟩⟩
theorem SlE.get {α : Type} {enc : α → Value} {w : World} {b : Option Addr} {xs : List α} (h : SlE enc w b xs) {i : Nat} (hi : i < xs.length) : ∃ g o, b = some ⟨g, o, none⟩ ∧ Old w g o (xs.map enc) := by
  rcases h.h with h | h
  · subst h; simp at hi
  · exact h
theorem SlE.nil {α : Type} {enc : α → Value} {w : World} {b : Option Addr} : SlE enc w b ([] : List α) := ⟨.inl rfl⟩
theorem SlE.rdN {α : Type} {enc : α → Value} {w0 : World} {L : List Chunk} {p : Addr} {xs : List α} (h : SlE enc w0 (some p) xs) : RdN [] w0 L p (xs.map enc) := by
  rcases h.h with h | ⟨g, o, e, hO⟩
  · subst h; exact .nil
  · cases e; exact RdN.old hO (by simp)
theorem SlE.vw {α : Type} {enc : α → Value} {w0 : World} {L : List Chunk} {b : Option Addr} {xs : List α} (h : SlE enc w0 b xs) : Vw [] w0 L b (xs.map enc) := by
  cases b with
  | none =>
    rcases h.h with h | ⟨g, o, e, hO⟩
    · subst h; exact .inl ⟨rfl, rfl⟩
    · cases e
  | some p => exact .inr ⟨p, rfl, h.rdN⟩
theorem Old.drp {w : World} {g o : Nat} {vs : List Value} (h : Old w g o vs) (k : Nat) : Old w g (o + k) (vs.drop k) := ⟨fun j v hj => by
  rw [nth_eq, List.getElem?_drop] at hj
  have := h.cell (k + j) v (by rw [nth_eq]; exact hj)
  rwa [show o + (k + j) = o + k + j by omega] at this⟩
theorem Old.tak {w : World} {g o : Nat} {vs : List Value} (h : Old w g o vs) (k : Nat) : Old w g o (vs.take k) := ⟨fun j v hj => h.cell j v (by
  rw [nth_eq, List.getElem?_take] at hj
  split at hj
  · rw [nth_eq]; exact hj
  · cases hj)⟩
theorem SlE.part {α : Type} {enc : α → Value} {w : World} {b : Option Addr} {xs : List α} (h : SlE enc w b xs) (lo hi cap : Nat) (hlo : lo ≤ hi) (hhi : hi ≤ xs.length) (hcap : xs.length ≤ cap) : SlE enc w (if cap = lo then b else b.map (·.add (lo * 1))) ((xs.drop lo).take (hi - lo)) := by
  refine ⟨?_⟩
  rcases h.h with h | ⟨g, o, rfl, hO⟩
  · left; simp [h]
  · by_cases hc : cap = lo
    · left
      have : hi - lo = 0 := by omega
      simp [this]
    · right
      refine ⟨g, o + lo, by rw [if_neg hc]; simp [Addr.add_mid], ?_⟩
      rw [List.map_take, List.map_drop]
      exact (hO.drp lo).tak _
section
variable {P : Program} {n m d : Nat} {T : List (Nat × Value)} {X : List Nat} {w0 : World} {L L' : List Chunk} {K : Act → World → Prop} {Q : Exit → Act → World → Prop}
  {ty t e : TypeId} {pos : String} {af : Array Edge} {gu : Option (Nat × Bool)} {x y : Operand}
theorem e_appM {α : Type} (enc : α → Value) (zs : List α) (z : α) {b : Option Addr} {len cap bytes cap2 g : Nat} {zz : Value} (hx : ev T x = some (.slice b len cap)) (hy : ev T y = some (.slice (some ⟨g, 0, none⟩) 1 cap2)) (hd : Nat.blt d n = true)
    [hu : UT P t (.slice e)] [hs : SzT P e 1] [hb : ByT P e bytes] [hz : ZrT P e #[zz]] (hr : Rm (.sl b cap e 1 (zs.map enc)) L L') (hm : Chunk.blk g (.cells #[enc z] e (0, 0)) ∈ L)
    (hlen : zs.length = len) (ho : OS X w0.heap.size b cap len) (hone : (enc z).oneCell' = true) (hby : (len + 1) * bytes ≤ 140737488355328) (hl9 : len ≤ 9223372036854775806)
    (h : ∀ b' cap' m', OS X w0.heap.size b' cap' (len + 1) → m ≤ m' → ∀ a w, SS n ((d, .slice b' (len + 1) cap') :: T) X w0 m' (.sl b' cap' e 1 ((zs ++ [z]).map enc) :: L') a w → K a w) :
    ∀ a w, SS n T X w0 m L a w → OW P ⟨some d, .call { callee := .builtin .append, args := #[x, y], argTypes := #[t, t] }, ty, pos, af, gu⟩ K Q a w := by
  refine e_append (xs := zs.map enc) (news := [enc z]) hx hy hd (by rfl) hr (RdN.blk hm (by rfl)) (by simp [hlen]) (by rfl) ho.le ho.max (by simp [allOne, hone]) (by omega) hby ho.newc ?_
  intro b' cap' m' h1 h2 h3 h4 h5
  have e1 : zs.map enc ++ [enc z] = (zs ++ [z]).map enc := by simp
  rw [e1] at h1 h5 ⊢
  refine h b' cap' m' ⟨h2, h3, ?_, fun g hg => h1 g (by cases b' <;> exact hg)⟩ h4
  rcases h5 with ⟨_, h6⟩ | h6
  · simp at h6
  · exact .inr h6
theorem e_appL {α : Type} (enc : α → Value) (zs ys : List α) {b : Option Addr} {len cap bytes len2 cap2 : Nat} {p : Addr} {zz : Value} (hx : ev T x = some (.slice b len cap)) (hy : ev T y = some (.slice (some p) len2 cap2)) (hd : Nat.blt d n = true)
    [hu : UT P t (.slice e)] [hs : SzT P e 1] [hb : ByT P e bytes] [hz : ZrT P e #[zz]] (hr : Rm (.sl b cap e 1 (zs.map enc)) L L') (hv : RdN X w0 L p (ys.map enc))
    (hlen : zs.length = len) (hlen2 : ys.length = len2) (ho : OS X w0.heap.size b cap len) (hone : allOne (ys.map enc) = true) (hby : (len + len2) * bytes ≤ 140737488355328) (hl9 : len + len2 ≤ 9223372036854775807)
    (h : ∀ b' cap' m', OS X w0.heap.size b' cap' (len + len2) → m ≤ m' → ∀ a w, SS n ((d, .slice b' (len + len2) cap') :: T) X w0 m' (.sl b' cap' e 1 ((zs ++ ys).map enc) :: L') a w → K a w) :
    ∀ a w, SS n T X w0 m L a w → OW P ⟨some d, .call { callee := .builtin .append, args := #[x, y], argTypes := #[t, t] }, ty, pos, af, gu⟩ K Q a w := by
  refine e_append (xs := zs.map enc) (news := ys.map enc) hx hy hd (by rfl) hr hv (by simp [hlen]) (by simp [hlen2]) ho.le ho.max hone hl9 hby ho.newc ?_
  intro b' cap' m' h1 h2 h3 h4 h5
  rw [← List.map_append] at h1 h5 ⊢
  refine h b' cap' m' ⟨h2, h3, ?_, fun g hg => h1 g (by cases b' <;> exact hg)⟩ h4
  rcases h5 with ⟨h7, h6⟩ | h6
  · have h8 := congrArg List.length h6
    rw [List.length_map, List.length_append, hlen, hlen2] at h8
    exact .inl ⟨h7, h8⟩
  · exact .inr h6
theorem frn {F : Act → World → Prop} {c : Chunk} (hr : Rm c L L') (h : ∀ a w, SS n T X w0 m (c :: L') a w → F a w) : ∀ a w, SS n T X w0 m L a w → F a w :=
  prm (by obtain ⟨A, B, rfl, rfl⟩ := hr.split; exact List.perm_middle) h
abbrev RLe {α : Type} (enc : α → Value) (e : TypeId) (Φ : List α → Prop) (w : World) : Ending → World → Prop :=
  Ret (fun z : Option Addr × Nat × List α => .slice z.1 z.2.2.length z.2.1) [] (fun z => [.sl z.1 z.2.1 e 1 (z.2.2.map enc)]) (fun z => (z.2.2.length ≤ z.2.1 ∧ z.2.1 ≤ 9223372036854775807 ∧ ((z.1 = none ∧ z.2.2.length = 0) ∨ ∃ g, z.1 = some ⟨g, 0, none⟩)) ∧ Φ z.2.2) w
theorem e_callL {α : Type} {enc : α → Value} {Φ : List α → Prop} {fop : Operand} {xs : List Operand} {ats : Array TypeId} {f : FuncId} {vs : List Value}
    (hf : ev T fop = some (.func (.func f) #[] #[])) (hargs : evs T xs = some vs) (hb : bodied P f = true) (hd : Nat.blt d n = true)
    (hcon : ∀ w, Ch X w0 w → w.heap.size = m → Has L w → CA P f vs w (RLe enc e Φ w))
    (h : ∀ b cap zs m', Φ zs → OS X w0.heap.size b cap zs.length → m ≤ m' → ∀ a w, SS n ((d, .slice b zs.length cap) :: T) X w0 m' (.sl b cap e 1 (zs.map enc) :: L) a w → K a w) :
    ∀ a w, SS n T X w0 m L a w → OW P ⟨some d, .call { callee := .value fop, args := xs.toArray, argTypes := ats }, ty, pos, af, gu⟩ K Q a w := by
  intro a w hs
  have hm0 : w0.heap.size ≤ m := by have := hs.ch.size; have := hs.size; omega
  refine e_call (Y := []) hf hargs hb hd hcon (by simp) (List.Sublist.refl _) (by simp) ?_ a w hs
  rintro ⟨b, cap, zs⟩ m' ⟨⟨h1, h2, h3⟩, h4⟩ hnew hm'
  exact h b cap zs m' h4 ⟨h1, h2, h3, fun g hg => .inr (by
    have := hnew g (by simp only [feet, List.flatMap_cons, List.flatMap_nil, List.append_nil]; cases b <;> exact hg)
    simp at this; omega)⟩ hm'
end
/-! ### guards that hang on what was not wanted -/
def notW : Value → Bool → Bool
  | .bool b, want => !(b == want)
  | _, _ => true
section
variable {P : Program} {n m d : Nat} {T : List (Nat × Value)} {X : List Nat} {w0 : World} {L Lw : List Chunk} {ops : Array Oper} {rest : List Oper} {Q : Ct}
  {op : Op} {ty : TypeId} {pos : String} {af : Array Edge} {i : Nat} {b0 : Bool} {σ : List (Nat × Kd)}
theorem not_yielded {a : Act} (hA : Agr n T a) {j : Nat} {v : Value} {want : Bool} (h : gd ops T j = some v) (hv : notW v want = true) : ¬ yielded ops a.tmps j = some want := by
  unfold gd at h
  unfold yielded
  cases ho : ops[j]? with
  | none => simp [ho] at h
  | some o =>
    simp only [ho] at h
    cases hd : o.dst with
    | none => simp [hd] at h
    | some t =>
      simp only [hd] at h
      have := hA.slot t _ h
      simp only [Option.bind_some, hd, this]
      cases v <;> simp_all [notW]
theorem st_skipv {j : Nat} {v : Value} {want : Bool} (hg : gd ops T j = some v) (hb : notW v want = true) (hd : Nat.blt d n = true)
    (h : ∀ a w, SS n ((d, undef) :: T) X w0 m L a w → WL P ops Q rest a w) :
    ∀ a w, SS n T X w0 m L a w → WL P ops Q (⟨some d, op, ty, pos, af, some (j, want)⟩ :: rest) a w := by
  intro a w hs
  refine ⟨?_⟩
  unfold wpListIn
  rw [if_neg (by have := not_yielded hs.agr hg hb; simpa [Region.wanted] using this)]
  exact ⟨fun _ _ => trivial, (h _ _ ⟨hs.agr.put undef hd, hs.ch, hs.size, hs.has⟩).h⟩
theorem x_skipv {j : Nat} {v : Value} {want : Bool} (ho : ops[i]? = some ⟨some d, op, ty, pos, af, some (j, want)⟩) (hg : gd ops T j = some v) (hb : notW v want = true) (hd : Nat.blt d n = true)
    (h : ∀ a w, SS n ((d, undef) :: T) X w0 m L a w → XL P ops Q X w0 Lw b0 σ a w) : ∀ a w, SS n T X w0 m L a w → XL P ops Q X w0 Lw b0 ((i, .q) :: σ) a w :=
  fun a w hs => ⟨_, undef, ho, .inr ⟨by have := not_yielded hs.agr hg hb; simpa [Region.wanted] using this, rfl⟩, (h _ _ ⟨hs.agr.put undef hd, hs.ch, hs.size, hs.has⟩).h⟩
theorem x_nskipv {j : Nat} {v : Value} {want : Bool} (ho : ops[i]? = some ⟨some d, op, ty, pos, af, some (j, want)⟩) (hg : gd ops T j = some v) (hb : notW v want = true) (hd : Nat.blt d n = true)
    (h : ∀ a w, SS n ((d, undef) :: T) X w0 m L a w → XL P ops Q X w0 Lw b0 σ a w) : ∀ a w, SS n T X w0 m L a w → XL P ops Q X w0 Lw b0 ((i, .n) :: σ) a w :=
  fun a w hs => ⟨_, undef, ho, .inr ⟨by have := not_yielded hs.agr hg hb; simpa [Region.wanted] using this, rfl⟩, (h _ _ ⟨hs.agr.put undef hd, hs.ch, hs.size, hs.has⟩).h⟩
theorem x_eskipv {j : Nat} {v : Value} {want : Bool} (hL : (Lb b0 Lw).Sublist L) (ho : ops[i]? = some ⟨some d, op, ty, pos, af, some (j, want)⟩) (hg : gd ops T j = some v) (hb : notW v want = true) (hd : Nat.blt d n = true) (h : ∀ a w, SS n ((d, undef) :: T) X w0 m L a w → XL P ops Q X w0 Lw b0 σ a w) :
    ∀ a w, SS n T X w0 m L a w → XL P ops Q X w0 Lw b0 ((i, .e) :: σ) a w := by
  intro a w hs
  refine ⟨?_⟩
  unfold LX wpOp
  simp only [ho]
  rw [if_neg (by have := not_yielded hs.agr hg hb; simpa [Region.wanted] using this)]
  exact ⟨by rw [Sof_b]; exact ⟨hs.ch, hs.has.sub hL⟩, (h _ _ ⟨hs.agr.put undef hd, hs.ch, hs.size, hs.has⟩).h⟩
end
theorem OS.ret {X : List Nat} {k : Nat} {b : Option Addr} {cap len : Nat} (h : OS X k b cap len) : len ≤ cap ∧ cap ≤ 9223372036854775807 ∧ ((b = none ∧ len = 0) ∨ ∃ g, b = Option.some ⟨g, 0, none⟩) := ⟨h.le, h.max, h.ob⟩
end Go.Proofs.YtgmghkakiocmjaaGreatDoor
namespace Go.Proofs.YtgmghkakiocmjaaGreatDoor
open Go Go.RowKit
set_option linter.unusedVariables false
section
variable {P : Program} {n m d : Nat} {T : List (Nat × Value)} {X : List Nat} {w0 : World} {L L' : List Chunk} {x y : Code} {Q : Ct}
structure JoinK {γ : Type} (n : Nat) (X : List Nat) (w0 : World) (T' : γ → List (Nat × Value)) (m' : γ → Nat) (L' : γ → List Chunk) (Φ : γ → Prop) (a : Act) (w : World) : Prop where
  h : ∃ z, Φ z ∧ SS n (T' z) X w0 (m' z) (L' z) a w
theorem c_join {γ : Type} (T' : γ → List (Nat × Value)) (m' : γ → Nat) (L' : γ → List Chunk) (Φ : γ → Prop)
    (first : ∀ a w, SS n T X w0 m L a w → CW P x (.thn (JoinK n X w0 T' m' L' Φ) Q) a w)
    (rest : ∀ z, Φ z → ∀ a w, SS n (T' z) X w0 (m' z) (L' z) a w → CW P y Q a w) :
    ∀ a w, SS n T X w0 m L a w → CW P (Code.seq x y) Q a w :=
  fun a w hs => ⟨wpIn_seq (wpIn_mono (first a w hs).h fun e a w hq => by
    cases e with
    | normal => obtain ⟨z, hz, hs'⟩ := JoinK.h hq; exact (rest z hz a w hs').h
    | _ => exact hq)⟩
end
end Go.Proofs.YtgmghkakiocmjaaGreatDoor
namespace Go.Proofs.YtgmghkakiocmjaaGreatDoor
open Go Go.RowKit
set_option linter.unusedVariables false
inductive Sel : List Chunk → List Chunk → Prop
  | nil {L : List Chunk} : Sel [] L
  | cons {c : Chunk} {cs L L1 : List Chunk} (h : Rm c L L1) (hs : Sel cs L1) : Sel (c :: cs) L
theorem Sel.perm {A L : List Chunk} (h : Sel A L) : ∃ R, L.Perm (A ++ R) := by
  induction h with
  | @nil L => exact ⟨L, List.Perm.refl _⟩
  | @cons c cs L L1 hr _ ih =>
    obtain ⟨R, hR⟩ := ih
    obtain ⟨X, Y, rfl, rfl⟩ := hr.split
    exact ⟨R, List.perm_middle.trans (List.Perm.cons c hR)⟩
theorem Has.sel {A L : List Chunk} {w : World} (h : Has L w) (hs : Sel A L) : Has A w := by
  obtain ⟨R, hR⟩ := hs.perm
  exact (h.perm hR).sub (List.sublist_append_left _ _)
section
variable {P : Program} {n m d i : Nat} {T : List (Nat × Value)} {X : List Nat} {w0 : World} {L L' Lw : List Chunk} {ops : Array Oper} {Q : Ct} {x y : Code}
  {op : Op} {ty : TypeId} {pos : String} {af : Array Edge} {gu : Option (Nat × Bool)} {v : Value} {dst : Option Tmp} {F : Act → World → Prop}
theorem c_joinedS {γ : Type} {T' : γ → List (Nat × Value)} {m' : γ → Nat} {L' : γ → List Chunk} {Φ : γ → Prop} (z : γ) (hT : subT T (T' z)) (hm : m' z = m) (hL : Sel (L' z) L) (hz : Φ z) :
    ∀ a w, SS n T X w0 m L a w → JoinK n X w0 T' m' L' Φ a w :=
  fun a w hs => ⟨z, hz, hs.agr.sub hT, hs.ch, hm ▸ hs.size, hs.has.sel hL⟩
theorem freeze_at {w : World} {g k : Nat} {cs : Array Value} {tt : TypeId} (h : w.heap[g]? = some (.cells cs tt (0, 0))) : (w.freeze ⟨g, k, none⟩ 1).heap[g]? = some (.cells cs tt (k, k + 1)) := by
  unfold World.freeze
  rw [if_neg (by decide)]
  simp [Array.getElem?_modify, h]
theorem freeze_ne {w : World} {g k j : Nat} (h : j ≠ g) : (w.freeze ⟨g, k, none⟩ 1).heap[j]? = w.heap[j]? := by
  unfold World.freeze
  rw [if_neg (by decide)]
  simp [Array.getElem?_modify, Ne.symm h]
theorem freeze_size {w : World} {g k : Nat} : (w.freeze ⟨g, k, none⟩ 1).heap.size = w.heap.size := by
  unfold World.freeze
  rw [if_neg (by decide)]
  simp
theorem freeze_rest {w : World} {g k : Nat} : (w.freeze ⟨g, k, none⟩ 1).os = w.os ∧ (w.freeze ⟨g, k, none⟩ 1).tape = w.tape ∧ (w.freeze ⟨g, k, none⟩ 1).output = w.output := by
  unfold World.freeze
  rw [if_neg (by decide)]
  exact ⟨rfl, rfl, rfl⟩
theorem e_conv_const {t e tt : TypeId} {x : Operand} {g len cap : Nat} {cs : Array Value} {K : Act → World → Prop} {Qf : Exit → Act → World → Prop} (hx : ev T x = some (.slice (some ⟨g, 0, none⟩) len cap)) [hu : UT P t (.slice e)] [he : UT P e (.int .u8)] (hd : Nat.blt d n = true)
    (hp : Pl (.blk g (.cells cs tt (0, 0))) (.blk g (.cells cs tt (cs.size, cs.size + 1))) L L') (hg : g ∈ X ∨ w0.heap.size ≤ g)
    (h : ∀ a w, SS n ((d, .slice (some ⟨g, 0, none⟩) len cap) :: T) X w0 m L' a w → K a w) :
    ∀ a w, SS n T X w0 m L a w → OW P ⟨some d, .convert t t x, ty, pos, af, gu⟩ K Qf a w := by
  intro a w hs'
  obtain ⟨hA, hC, rfl, hL⟩ := hs'
  have hb := hL.ok _ hp.mem
  simp only [Chunk.ok] at hb
  have hsh : w.shape? g = some (tt, cs.size) := by unfold World.shape?; rw [hb]
  refine wp_value (w' := w.freeze ⟨g, cs.size, none⟩ 1) (v := .slice (some ⟨g, 0, none⟩) len cap) ?_ (h _ _ ⟨hA.put _ hd, hC.call (Y := [g]) ⟨freeze_rest.1, freeze_rest.2.1, freeze_rest.2.2, by rw [freeze_size]; exact Nat.le_refl _, fun k _ hk => freeze_ne (by simpa using hk)⟩ (by simpa using hg), freeze_size, Has.repl hp hL (fun k hk => .inl hk) (freeze_at hb) (fun k _ hk => freeze_ne (by simpa [Chunk.foot] using hk))⟩)
  simp [execOp, hA.eval hx, convert, run_underlying hu.h, run_underlying he.h, markStringish, hsh]
structure XA (P : Program) (ops : Array Oper) (Q : Ct) (X : List Nat) (w0 : World) (Lw : List Chunk) (fuel : Nat) (listed : List Bool) (a : Act) (w : World) : Prop where
  h : wpAnyS P ops (NoPO Q.den) (fun _ => Sof X w0 Lw) fuel listed.toArray a w
structure XAK (P : Program) (ops : Array Oper) (Q : Ct) (X : List Nat) (w0 : World) (Lw : List Chunk) (fuel : Nat) (listed : List Bool) (a : Act) (w : World) : Prop where
  s : Sof X w0 Lw w
  h : XA P ops Q X w0 Lw fuel listed a w
def setB : List Bool → Nat → List Bool
  | [], _ => []
  | _ :: l, 0 => true :: l
  | b :: l, i + 1 => b :: setB l i
theorem setB_eq : ∀ (l : List Bool) (i : Nat), l.toArray.setIfInBounds i true = (setB l i).toArray := by
  intro l i
  apply Array.ext'
  rw [Array.toList_setIfInBounds]
  show l.set i true = setB l i
  induction l generalizing i with
  | nil => rfl
  | cons b l ih => cases i with
    | zero => rfl
    | succ i => simp [setB, ih]
theorem xa_region {id : Nat} {l : List Oper} {lf : List Bool} (Lw : List Chunk) (hm : P.follows .mixedOrders = true) (hsel : Region.noSelect l.toArray = true) (hlf : List.replicate l.length false = lf) (hL : Lw.Sublist L)
    (h : ∀ a w, SS n T X w0 m L a w → XA P l.toArray Q X w0 Lw l.length lf a w) (hnd : (Q.ro.isNone || l.all (notDefer ·.op)) = true := by rfl) : ∀ a w, SS n T X w0 m L a w → CW P (Code.region id l.toArray true) Q a w := by
  intro a w hs
  subst hlf
  refine ⟨wpIn_mono (wpIn_region_any hm (wpAnyIn_of (by simpa using hnd) (fun h => (let ⟨_, _, h'⟩ := h; h')) _ _ _ _ (wpAny_of_S (S := fun _ => Sof X w0 Lw) _ _ _ _ ?_))) NoPO.imp⟩
  have h1 := (h a w.drew ⟨hs.agr, hs.ch.drew _, hs.size, hs.has.drew _⟩).h
  have e : Array.replicate l.toArray.size false = (List.replicate l.length false).toArray := by simp
  rw [e]
  exact h1
theorem xa_nil {k : Nat} {l : List Bool} (hr : (Region.ready .any ops l.toArray).isEmpty = true) (hk : k = 0) (h : ∀ a w, SS n T X w0 m L a w → EX Q .normal a w) : ∀ a w, SS n T X w0 m L a w → XA P ops Q X w0 Lw k l a w := by
  intro a w hs
  subst hk
  have h1 := (h a w hs).h
  exact ⟨⟨by simpa using hr, h1⟩⟩
theorem xa_y {k : Nat} {l l2 : List Bool} (hsel : Region.noSelect ops = true) (ho : ops[i]? = some ⟨some d, op, ty, pos, af, gu⟩) (hf : (Region.free .any ops l.toArray i && (Region.ready .any ops l.toArray).contains i) = true) (hl : setB l i = l2)
    (hy : ∀ n a, Agr n T a → YQ P ops (Sof X w0 Lw) ⟨some d, op, ty, pos, af, gu⟩ v a) (hL : Lw.Sublist L) (hd : Nat.blt d n = true) (h : ∀ a w, SS n ((d, v) :: T) X w0 m L a w → XA P ops Q X w0 Lw k l2 a w) :
    ∀ a w, SS n T X w0 m L a w → XA P ops Q X w0 Lw (k + 1) l a w := by
  intro a w hs
  subst hl
  simp only [Bool.and_eq_true] at hf
  refine ⟨anyS_first (S := fun _ => Sof X w0 Lw) ho (Region.noSelect_spec hsel) (fun c a w hp => hp.elim) (fun _ _ => Iff.rfl) k l.toArray a w (Region.free_spec ho hf.1) (fun _ _ _ _ _ _ _ => Iff.rfl) (by simpa using hf.2) ⟨hs.ch, hs.has.sub hL⟩ (hy n a hs.agr) ?_⟩
  rw [setB_eq]
  exact (h _ _ ⟨hs.agr.put v hd, hs.ch, hs.size, hs.has⟩).h
theorem ya_q (hq : Qt P X w0 ⟨dst, op, ty, pos, af, none⟩ T Lw v) : ∀ n a, Agr n T a → YQ P ops (Sof X w0 Lw) ⟨dst, op, ty, pos, af, none⟩ v a :=
  fun n a hA => .inl ⟨by simp [Region.wanted], fun w hw => hq.h n a w hA hw.ch hw.has⟩
structure BR (P : Program) (ops : Array Oper) (Q : Ct) (X : List Nat) (w0 : World) (Lw : List Chunk) (k : Nat) (l : List Bool) (is : List Nat) (a : Act) (w : World) : Prop where
  h : ∀ i ∈ is, wpOp P ops (NoPO Q.den) i (fun a' w' => Sof X w0 Lw w' ∧ wpAnyS P ops (NoPO Q.den) (fun _ => Sof X w0 Lw) k (l.toArray.setIfInBounds i true) a' w') a w
theorem xa_br {k : Nat} {l : List Bool} (i : Nat) (is : List Nat) (hr : Region.ready .any ops l.toArray = i :: is) (h : ∀ a w, SS n T X w0 m L a w → BR P ops Q X w0 Lw k l (i :: is) a w) : ∀ a w, SS n T X w0 m L a w → XA P ops Q X w0 Lw (k + 1) l a w := by
  intro a w hs
  refine ⟨⟨fun h0 => (by rw [hr] at h0; cases h0), fun j hj => ?_⟩⟩
  rw [hr] at hj
  exact (h a w hs).h j hj
theorem br_nil {k : Nat} {l : List Bool} : ∀ a w, SS n T X w0 m L a w → BR P ops Q X w0 Lw k l [] a w := fun a w hs => ⟨fun i hi => by cases hi⟩
theorem br_cons {k : Nat} {l l2 : List Bool} {i : Nat} {is : List Nat} (ho : ops[i]? = some ⟨dst, op, ty, pos, af, none⟩) (hl : setB l i = l2)
    (h : ∀ a w, SS n T X w0 m L a w → OW P ⟨dst, op, ty, pos, af, none⟩ (XAK P ops Q X w0 Lw k l2) (NoPO Q.den) a w) (hs : ∀ a w, SS n T X w0 m L a w → BR P ops Q X w0 Lw k l is a w) :
    ∀ a w, SS n T X w0 m L a w → BR P ops Q X w0 Lw k l (i :: is) a w := by
  intro a w hss
  subst hl
  refine ⟨fun j hj => ?_⟩
  rcases List.mem_cons.1 hj with rfl | hj
  · unfold wpOp
    simp only [ho]
    rw [if_pos (by simp [Region.wanted])]
    exact .inl (Oper.wp_mono (fun a w h => ⟨h.s, by rw [setB_eq]; exact h.h.h⟩) (h a w hss).h)
  · exact (hs a w hss).h j hj
theorem xa_k {k : Nat} {l : List Bool} (hL : Sel Lw L) (h : ∀ a w, SS n T X w0 m L a w → XA P ops Q X w0 Lw k l a w) : ∀ a w, SS n T X w0 m L a w → XAK P ops Q X w0 Lw k l a w :=
  fun a w hs => ⟨⟨hs.ch, hs.has.sel hL⟩, h a w hs⟩
end
end Go.Proofs.YtgmghkakiocmjaaGreatDoor
namespace Go.Proofs.YtgmghkakiocmjaaGreatDoor
open Go Go.RowKit
set_option linter.unusedVariables false
section
variable {P : Program} {n m d i : Nat} {T : List (Nat × Value)} {X : List Nat} {w0 : World} {L L' Lw : List Chunk} {ops : Array Oper} {rest : List Oper} {Q : Ct} {F K : Act → World → Prop} {Qf : Exit → Act → World → Prop}
  {op : Op} {ty t t2 ty2 e tt src : TypeId} {pos : String} {af : Array Edge} {gu : Option (Nat × Bool)} {u v v1 v2 : Value} {x y c : Operand} {dst : Option Tmp} {g off o sz : Nat} {cs : Array Value} {a b : Int} {k k' : IntKind} {ds : TypeDesc} {σ : List (Nat × Kd)} {b0 : Bool}
/-! ### steps -/
theorem sq (hq : Qt P X w0 ⟨some d, op, ty, pos, af, none⟩ T L v) (h : ∀ a w, SS n ((d, v) :: T) X w0 m L a w → WL P ops Q rest a w) (hd : Nat.blt d n = true := by rfl) (hnd : (Q.ro.isNone || notDefer op) = true := by rfl) :
    ∀ a w, SS n T X w0 m L a w → WL P ops Q (⟨some d, op, ty, pos, af, none⟩ :: rest) a w := st_q hq hd h hnd
theorem se (h : ∀ a w, SS n T X w0 m L a w → OW P ⟨dst, op, ty, pos, af, none⟩ (WL P ops Q rest) Q.den a w) (hnd : (Q.ro.isNone || notDefer op) = true := by rfl) :
    ∀ a w, SS n T X w0 m L a w → WL P ops Q (⟨dst, op, ty, pos, af, none⟩ :: rest) a w := by
  cases dst with
  | none => exact st_e0 h hnd
  | some d => exact st_e h hnd
theorem sk {j : Nat} {b want : Bool} (h : ∀ a w, SS n ((d, undef) :: T) X w0 m L a w → WL P ops Q rest a w) (hg : gd ops T j = some (.bool b) := by rfl) (hb : (b == want) = false := by rfl) (hd : Nat.blt d n = true := by rfl) :
    ∀ a w, SS n T X w0 m L a w → WL P ops Q (⟨some d, op, ty, pos, af, some (j, want)⟩ :: rest) a w := st_skip hg hb hd h
theorem skv {j : Nat} {v : Value} {want : Bool} (h : ∀ a w, SS n ((d, undef) :: T) X w0 m L a w → WL P ops Q rest a w) (hg : gd ops T j = some v := by rfl) (hb : notW v want = true := by rfl) (hd : Nat.blt d n = true := by rfl) :
    ∀ a w, SS n T X w0 m L a w → WL P ops Q (⟨some d, op, ty, pos, af, some (j, want)⟩ :: rest) a w := st_skipv hg hb hd h
theorem xq (ho : ops[i]? = some ⟨some d, op, ty, pos, af, none⟩) (hq : Qt P X w0 ⟨some d, op, ty, pos, af, none⟩ T (Lb b0 Lw) v) (h : ∀ a w, SS n ((d, v) :: T) X w0 m L a w → XL P ops Q X w0 Lw b0 σ a w) (hd : Nat.blt d n = true := by rfl) :
    ∀ a w, SS n T X w0 m L a w → XL P ops Q X w0 Lw b0 ((i, .q) :: σ) a w := x_q ho hq hd h
theorem xn (ho : ops[i]? = some ⟨some d, op, ty, pos, af, none⟩) (hq : Qt P X w0 ⟨some d, op, ty, pos, af, none⟩ T [] v) (h : ∀ a w, SS n ((d, v) :: T) X w0 m L a w → XL P ops Q X w0 Lw b0 σ a w) (hd : Nat.blt d n = true := by rfl) :
    ∀ a w, SS n T X w0 m L a w → XL P ops Q X w0 Lw b0 ((i, .n) :: σ) a w := x_n ho hq hd h
theorem xk {K : Act → World → Prop} (h : ∀ a w, SS n T X w0 m L a w → K a w) (hL : Lw.Sublist L := by repeat (first | exact List.nil_sublist _ | exact List.Sublist.slnil | apply List.Sublist.cons_cons | exact List.Sublist.refl _ | apply List.Sublist.cons)) : ∀ a w, SS n T X w0 m L a w → XK X w0 Lw K a w := x_k hL h
/-! ### what reads -/
theorem qm (hx : ev T x = some v := by rfl) : Qt P X w0 ⟨dst, .move x, ty, pos, af, gu⟩ T L v := q_move hx
theorem qa (hx : ev T x = some v := by rfl) : Qt P X w0 ⟨dst, .assign x, ty, pos, af, gu⟩ T L v := q_assign hx
theorem qpt (hc : ev T c = some (.bool true) := by rfl) (hx : ev T x = some v := by rfl) : Qt P X w0 ⟨dst, .pick c x y, ty, pos, af, gu⟩ T L v := q_pick_t hc hx
theorem qpf (hc : ev T c = some (.bool false) := by rfl) (hy : ev T y = some v := by rfl) : Qt P X w0 ⟨dst, .pick c x y, ty, pos, af, gu⟩ T L v := q_pick_f hc hy
theorem ql {p : Addr} [hf : FlT P t] (hx : ev T x = some (.pointer (some p)) := by rfl) (hr : Rd X w0 L p v := by first | exact Rd.blkn (by repeat (first | exact List.Mem.head _ | apply List.Mem.tail)) (by first | rfl | assumption) | exact Rd.sln (by repeat (first | exact List.Mem.head _ | apply List.Mem.tail)) (by first | rfl | assumption) | exact Rd.oldn (by assumption) (by first | rfl | assumption) (by simp) | exact Rd.old0 (by assumption) (by simp)) : Qt P X w0 ⟨dst, .load t x, ty, pos, af, gu⟩ T L v := q_load hx hr
theorem qlb {k : Nat} {t' : TypeId} {fr : Nat × Nat} [hf : RwT P t k] (hx : ev T x = some (.pointer (some ⟨g, 0, none⟩)) := by rfl) (hm : Chunk.blk g (.cells cs t' fr) ∈ L := by repeat (first | exact List.Mem.head _ | apply List.Mem.tail)) (hl : cs.size = k := by first | rfl | assumption) : Qt P X w0 ⟨dst, .load t x, ty, pos, af, gu⟩ T L (.agg cs) := q_load_blk hx hm hl
theorem qlr {k : Nat} {vs : List Value} [hf : RwT P t k] (hx : ev T x = some (.pointer (some ⟨g, o, none⟩)) := by rfl) (hr : RdN X w0 L ⟨g, o, none⟩ vs := by assumption) (hl : vs.length = k := by assumption) : Qt P X w0 ⟨dst, .load t x, ty, pos, af, gu⟩ T L (.agg vs.toArray) := q_load_row hx hr hl
theorem qn {p : Addr} (hx : ev T x = some (.pointer (some p)) := by rfl) : Qt P X w0 ⟨dst, .nilCheck x, ty, pos, af, gu⟩ T L (.pointer (some p)) := q_nilCheck hx
theorem qe {i : Nat} {vs : List Value} (hx : ev T x = some (.tuple vs.toArray) := by rfl) (hv : nth vs i = some v := by rfl) : Qt P X w0 ⟨dst, .extract x i, ty, pos, af, gu⟩ T L v := q_extractn hx hv
theorem qf {i off sz o' : Nat} {pl : List (Nat × Nat)} [hs : PlT P t pl] (hx : ev T x = some (.pointer (some ⟨g, o, none⟩)) := by rfl) (hp : nthP pl i = some (off, sz) := by rfl) (hz : Nat.beq sz 0 = false := by rfl) (ho : o + off = o' := by first | (simp only [Nat.zero_add, Nat.add_zero, Nat.mul_one, Nat.one_mul, Int.toNat_natCast, Int.reduceToNat, Nat.reduceMul, Nat.reduceAdd, Nat.reduceSub, Int.reduceAdd, Int.reduceSub, Int.reduceMul, Nat.sub_zero, Int.toNat_zero, Int.zero_add, Int.add_zero, Int.sub_zero, Int.mul_one, Int.one_mul]; try exact rfl) | exact rfl) : Qt P X w0 ⟨dst, .fieldAddr t x i, ty, pos, af, gu⟩ T L (.pointer (some ⟨g, o', none⟩)) := q_fieldAddrP hx hp hz ho
theorem qia {len : Nat} {i : Int} [hu : UT P t (.array len e)] [hs : SzT P e sz] {o' : Nat} (hx : ev T x = some (.pointer (some ⟨g, o, none⟩)) := by rfl) (hy : ev T y = some (.int k i) := by rfl) (h0 : 0 ≤ i := by omega) (h1 : i < len := by omega) (ho : o + i.toNat * sz = o' := by first | (simp only [Nat.zero_add, Nat.add_zero, Nat.mul_one, Nat.one_mul, Int.toNat_natCast, Int.reduceToNat, Nat.reduceMul, Nat.reduceAdd, Nat.reduceSub, Int.reduceAdd, Int.reduceSub, Int.reduceMul, Nat.sub_zero, Int.toNat_zero, Int.zero_add, Int.add_zero, Int.sub_zero, Int.mul_one, Int.one_mul]; try exact rfl) | exact rfl) : Qt P X w0 ⟨dst, .indexAddr t x y, ty, pos, af, gu⟩ T L (.pointer (some ⟨g, o', none⟩)) := q_indexAddr_arr hx hy h0 h1 ho
theorem qis {len cap : Nat} {i : Int} [hu : UT P t (.slice e)] [hs : SzT P e sz] {o' : Nat} (hx : ev T x = some (.slice (some ⟨g, o, none⟩) len cap) := by rfl) (hy : ev T y = some (.int k i) := by rfl) (h0 : 0 ≤ i := by omega) (h1 : i < len := by omega) (ho : o + i.toNat * sz = o' := by first | (simp only [Nat.zero_add, Nat.add_zero, Nat.mul_one, Nat.one_mul, Int.toNat_natCast, Int.reduceToNat, Nat.reduceMul, Nat.reduceAdd, Nat.reduceSub, Int.reduceAdd, Int.reduceSub, Int.reduceMul, Nat.sub_zero, Int.toNat_zero, Int.zero_add, Int.add_zero, Int.sub_zero, Int.mul_one, Int.one_mul]; try exact rfl) | exact rfl) : Qt P X w0 ⟨dst, .indexAddr t x y, ty, pos, af, gu⟩ T L (.pointer (some ⟨g, o', none⟩)) := q_indexAddr_sl hx hy h0 h1 ho
theorem qbs {ps : List (Nat × Operand)} {pv : List (Nat × Value)} {fs : Array Field} {pl : List (Nat × Nat)} {zs : Array Value} {l l' : List Value} [hu : UT P t (.struct fs)] [hs : PlT P t pl] [hz : ZrT P t zs] (hp : evp T ps = some pv := by rfl) (hl : zs.toList = l := by (try simp only [List.replicate]); exact rfl) (hf : fillC (nthP pl) l pv = l' := by first | (simp only [fillC, placeA, nthP, plOff, setLs, setL, Value.cells, List.replicate, Nat.mul_one, Nat.one_mul, Nat.zero_mul]; try exact rfl) | exact rfl) (hok : fillOk (nthP pl) l.length pv = true := by rfl) : Qt P X w0 ⟨dst, .build t ps.toArray, ty, pos, af, gu⟩ T L (.agg l'.toArray) := q_build_struct hp hl hf hok
theorem qs {lo hi : Option Operand} {b : Option Addr} {len cap : Nat} {l h : Int} [hu : UT P t (.slice e)] [hs : SzT P e sz] {b' : Option Addr} {len' cap' : Nat} (hx : ev T x = some (.slice b len cap) := by rfl) (hlo : bnd T 0 lo = some l := by rfl) (hhi : bnd T len hi = some h := by rfl)
    (h0 : 0 ≤ l := by omega) (h1 : l ≤ h := by omega) (h2 : h ≤ cap := by omega) (hlc : len ≤ cap := by omega) (hb' : (if cap = l.toNat then b else b.map (·.add (l.toNat * sz))) = b' := by first | (simp only [Nat.zero_add, Nat.add_zero, Nat.mul_one, Nat.one_mul, Int.toNat_natCast, Int.reduceToNat, Nat.reduceMul, Nat.reduceAdd, Nat.reduceSub, Int.reduceAdd, Int.reduceSub, Int.reduceMul, Nat.sub_zero, Int.toNat_zero, Int.zero_add, Int.add_zero, Int.sub_zero, Int.mul_one, Int.one_mul, if_neg, if_pos, reduceIte, Option.map_some, Addr.add_mid, Nat.reduceEqDiff]; try exact rfl) | (rw [if_neg (by omega)]; first | (simp only [Nat.zero_add, Nat.add_zero, Nat.mul_one, Nat.one_mul, Int.toNat_natCast, Int.reduceToNat, Nat.reduceMul, Nat.reduceAdd, Nat.reduceSub, Int.reduceAdd, Int.reduceSub, Int.reduceMul, Nat.sub_zero, Int.toNat_zero, Int.zero_add, Int.add_zero, Int.sub_zero, Int.mul_one, Int.one_mul, Option.map_some, Addr.add_mid]; try exact rfl) | exact rfl) | (rw [if_pos (by omega)])) (hlen : h.toNat - l.toNat = len' := by first | (simp only [Nat.zero_add, Nat.add_zero, Nat.mul_one, Nat.one_mul, Int.toNat_natCast, Int.reduceToNat, Nat.reduceMul, Nat.reduceAdd, Nat.reduceSub, Int.reduceAdd, Int.reduceSub, Int.reduceMul, Nat.sub_zero, Int.toNat_zero, Int.zero_add, Int.add_zero, Int.sub_zero, Int.mul_one, Int.one_mul]; try exact rfl) | exact rfl) (hcap : cap - l.toNat = cap' := by first | (simp only [Nat.zero_add, Nat.add_zero, Nat.mul_one, Nat.one_mul, Int.toNat_natCast, Int.reduceToNat, Nat.reduceMul, Nat.reduceAdd, Nat.reduceSub, Int.reduceAdd, Int.reduceSub, Int.reduceMul, Nat.sub_zero, Int.toNat_zero, Int.zero_add, Int.add_zero, Int.sub_zero, Int.mul_one, Int.one_mul]; try exact rfl) | exact rfl) : Qt P X w0 ⟨dst, .slice t x lo hi none, ty, pos, af, gu⟩ T L (.slice b' len' cap') := q_slice hx hlo hhi h0 h1 h2 hlc hb' hlen hcap
theorem qsa {lo hi : Option Operand} {k : Nat} {l h : Int} [hu : UT P t (.array k e)] [hs : SzT P e sz] {o' len' cap' : Nat} (hx : ev T x = some (.pointer (some ⟨g, o, none⟩)) := by rfl) (hlo : bnd T 0 lo = some l := by rfl) (hhi : bnd T k hi = some h := by rfl)
    (h0 : 0 ≤ l := by omega) (h1 : l ≤ h := by omega) (h2 : h ≤ k := by omega) (ho : (if k = l.toNat then o else o + l.toNat * sz) = o' := by first | (simp only [Nat.zero_add, Nat.add_zero, Nat.mul_one, Nat.one_mul, Int.toNat_natCast, Int.reduceToNat, Nat.reduceMul, Nat.reduceAdd, Nat.reduceSub, Int.reduceAdd, Int.reduceSub, Int.reduceMul, Nat.sub_zero, Int.toNat_zero, Int.zero_add, Int.add_zero, Int.sub_zero, Int.mul_one, Int.one_mul, if_neg, if_pos, reduceIte, Option.map_some, Addr.add_mid, Nat.reduceEqDiff]; try exact rfl) | (rw [if_neg (by omega)]; first | (simp only [Nat.zero_add, Nat.add_zero, Nat.mul_one, Nat.one_mul, Int.toNat_natCast, Int.reduceToNat, Nat.reduceMul, Nat.reduceAdd, Nat.reduceSub, Int.reduceAdd, Int.reduceSub, Int.reduceMul, Nat.sub_zero, Int.toNat_zero, Int.zero_add, Int.add_zero, Int.sub_zero, Int.mul_one, Int.one_mul, Option.map_some, Addr.add_mid]; try exact rfl) | exact rfl) | (rw [if_pos (by omega)])) (hlen : h.toNat - l.toNat = len' := by first | (simp only [Nat.zero_add, Nat.add_zero, Nat.mul_one, Nat.one_mul, Int.toNat_natCast, Int.reduceToNat, Nat.reduceMul, Nat.reduceAdd, Nat.reduceSub, Int.reduceAdd, Int.reduceSub, Int.reduceMul, Nat.sub_zero, Int.toNat_zero, Int.zero_add, Int.add_zero, Int.sub_zero, Int.mul_one, Int.one_mul]; try exact rfl) | exact rfl) (hcap : k - l.toNat = cap' := by first | (simp only [Nat.zero_add, Nat.add_zero, Nat.mul_one, Nat.one_mul, Int.toNat_natCast, Int.reduceToNat, Nat.reduceMul, Nat.reduceAdd, Nat.reduceSub, Int.reduceAdd, Int.reduceSub, Int.reduceMul, Nat.sub_zero, Int.toNat_zero, Int.zero_add, Int.add_zero, Int.sub_zero, Int.mul_one, Int.one_mul]; try exact rfl) | exact rfl) : Qt P X w0 ⟨dst, .slice t x lo hi none, ty, pos, af, gu⟩ T L (.slice (some ⟨g, o', none⟩) len' cap') := q_slice_arr hx hlo hhi h0 h1 h2 ho hlen hcap
theorem qnt {b : Bool} (hx : ev T x = some (.bool b) := by rfl) : Qt P X w0 ⟨dst, .unOp .not t x, ty, pos, af, gu⟩ T L (.bool (!b)) := q_not hx
theorem qcb {b : Option Addr} {len cap : Nat} {xs : List Int} [hs : UT P src (.slice e)] [he : UT P e (.int .u8)] [ht : UT P t .string] (hx : ev T x = some (.slice b len cap) := by rfl) (hv : Vw X w0 L b (xs.map (Value.int .u8)) := by first | assumption | constructor) (hl : xs.length = len := by first | assumption | rfl | omega) : Qt P X w0 ⟨dst, .convert src t x, ty, pos, af, gu⟩ T L (.string (strOfNums xs)) := q_conv_bytes hx hv hl
theorem qci [hs : UT P src ds] [hu : UT P t (.int .i64)] (hx : ev T x = some (.int k a) := by rfl) (h0 : -9223372036854775808 ≤ a := by omega) (h1 : a ≤ 9223372036854775807 := by omega) : Qt P X w0 ⟨dst, .convert src t x, ty, pos, af, gu⟩ T L (.int .i64 a) := q_conv_i64 hx h0 h1
theorem qc8 [hs : UT P src ds] [hu : UT P t (.int .u8)] (hx : ev T x = some (.int k a) := by rfl) : Qt P X w0 ⟨dst, .convert src t x, ty, pos, af, gu⟩ T L (.int .u8 (a % 256)) := q_conv8 hx
theorem qcU [hs : UT P src ds] [hu : UT P t (.int .u64)] (hx : ev T x = some (.int k a) := by rfl) : Qt P X w0 ⟨dst, .convert src t x, ty, pos, af, gu⟩ T L (.int .u64 (a % 18446744073709551616)) := q_convU hx
theorem qls {b : Option Addr} {len cap : Nat} [hu : UT P t (.slice e)] (hx : ev T x = some (.slice b len cap) := by rfl) : Qt P X w0 ⟨dst, .call { callee := .builtin .len, args := #[x], argTypes := #[t] }, ty, pos, af, gu⟩ T L (.int .i64 len) := q_len_sl hx
theorem qadd64 {r : Int} (hx : ev T x = some (.int .i64 a) := by rfl) (hy : ev T y = some (.int .i64 b) := by rfl) (h : -9223372036854775808 ≤ a + b ∧ a + b ≤ 9223372036854775807 := by exact ⟨by omega, by omega⟩) (hr : a + b = r := by first | (simp only [Nat.zero_add, Nat.add_zero, Nat.mul_one, Nat.one_mul, Int.toNat_natCast, Int.reduceToNat, Nat.reduceMul, Nat.reduceAdd, Nat.reduceSub, Int.reduceAdd, Int.reduceSub, Int.reduceMul, Nat.sub_zero, Int.toNat_zero, Int.zero_add, Int.add_zero, Int.sub_zero, Int.mul_one, Int.one_mul]; try exact rfl) | exact rfl) : Qt P X w0 ⟨dst, .binOp .add t x y ty2, ty, pos, af, gu⟩ T L (.int .i64 r) := q_add64 hx hy h hr
theorem qsub64 {r : Int} (hx : ev T x = some (.int .i64 a) := by rfl) (hy : ev T y = some (.int .i64 b) := by rfl) (h : -9223372036854775808 ≤ a - b ∧ a - b ≤ 9223372036854775807 := by exact ⟨by omega, by omega⟩) (hr : a - b = r := by first | (simp only [Nat.zero_add, Nat.add_zero, Nat.mul_one, Nat.one_mul, Int.toNat_natCast, Int.reduceToNat, Nat.reduceMul, Nat.reduceAdd, Nat.reduceSub, Int.reduceAdd, Int.reduceSub, Int.reduceMul, Nat.sub_zero, Int.toNat_zero, Int.zero_add, Int.add_zero, Int.sub_zero, Int.mul_one, Int.one_mul]; try exact rfl) | exact rfl) : Qt P X w0 ⟨dst, .binOp .sub t x y ty2, ty, pos, af, gu⟩ T L (.int .i64 r) := q_sub64 hx hy h hr
theorem qmul64 {r : Int} (hx : ev T x = some (.int .i64 a) := by rfl) (hy : ev T y = some (.int .i64 b) := by rfl) (h : -9223372036854775808 ≤ a * b ∧ a * b ≤ 9223372036854775807 := by exact ⟨by omega, by omega⟩) (hr : a * b = r := by first | (simp only [Nat.zero_add, Nat.add_zero, Nat.mul_one, Nat.one_mul, Int.toNat_natCast, Int.reduceToNat, Nat.reduceMul, Nat.reduceAdd, Nat.reduceSub, Int.reduceAdd, Int.reduceSub, Int.reduceMul, Nat.sub_zero, Int.toNat_zero, Int.zero_add, Int.add_zero, Int.sub_zero, Int.mul_one, Int.one_mul]; try exact rfl) | exact rfl) : Qt P X w0 ⟨dst, .binOp .mul t x y ty2, ty, pos, af, gu⟩ T L (.int .i64 r) := q_mul64 hx hy h hr
theorem qrem (hx : ev T x = some (.int k a) := by rfl) (hy : ev T y = some (.int k b) := by rfl) (h0 : 0 ≤ a := by omega) (hb : 0 < b := by omega) : Qt P X w0 ⟨dst, .binOp .rem t x y ty2, ty, pos, af, gu⟩ T L (.int k (a % b)) := q_rem hx hy h0 hb
theorem qor (hx : ev T x = some (.int k a) := by rfl) (hy : ev T y = some (.int k b) := by rfl) : Qt P X w0 ⟨dst, .binOp .or t x y ty2, ty, pos, af, gu⟩ T L (.int k (bits .or k a b)) := q_or hx hy
theorem qneqb {a b : Bool} [hu : UT P t .bool] (hx : ev T x = some (.bool a) := by rfl) (hy : ev T y = some (.bool b) := by rfl) : Qt P X w0 ⟨dst, .binOp .neq t x y ty2, ty, pos, af, gu⟩ T L (.bool (a != b)) := q_neq_bool hx hy
theorem qshlU (hx : ev T x = some (.int .u64 a) := by rfl) (hy : ev T y = some (.int k b) := by rfl) (h0 : 0 ≤ b := by omega) (hb : b ≤ 64 := by omega) : Qt P X w0 ⟨dst, .binOp .shl t x y ty2, ty, pos, af, gu⟩ T L (.int .u64 (a * 2 ^ b.toNat % 18446744073709551616)) := q_shlU hx hy h0 hb
theorem qshr (hx : ev T x = some (.int k a) := by rfl) (hy : ev T y = some (.int k' b) := by rfl) (h0 : 0 ≤ b := by omega) (hb : b.toNat ≤ k.bits := by show _ ≤ _; first | decide | (simp [IntKind.bits]; omega)) : Qt P X w0 ⟨dst, .binOp .shr t x y ty2, ty, pos, af, gu⟩ T L (.int k (a / 2 ^ b.toNat)) := q_shr hx hy h0 hb
theorem dlsst (hx : ev T x = some (.int k a) := by rfl) (hy : ev T y = some (.int k b) := by rfl) (h : a < b := by omega) : Qt P X w0 ⟨dst, .binOp .lss t x y ty2, ty, pos, af, gu⟩ T L (.bool true) := Qt.cast (congrArg Value.bool (decide_eq_true h)) (q_lss hx hy)
theorem dlssf (hx : ev T x = some (.int k a) := by rfl) (hy : ev T y = some (.int k b) := by rfl) (h : ¬ (a < b) := by omega) : Qt P X w0 ⟨dst, .binOp .lss t x y ty2, ty, pos, af, gu⟩ T L (.bool false) := Qt.cast (congrArg Value.bool (decide_eq_false h)) (q_lss hx hy)
theorem dleqt (hx : ev T x = some (.int k a) := by rfl) (hy : ev T y = some (.int k b) := by rfl) (h : a ≤ b := by omega) : Qt P X w0 ⟨dst, .binOp .leq t x y ty2, ty, pos, af, gu⟩ T L (.bool true) := Qt.cast (congrArg Value.bool (decide_eq_true h)) (q_leq hx hy)
theorem dleqf (hx : ev T x = some (.int k a) := by rfl) (hy : ev T y = some (.int k b) := by rfl) (h : ¬ (a ≤ b) := by omega) : Qt P X w0 ⟨dst, .binOp .leq t x y ty2, ty, pos, af, gu⟩ T L (.bool false) := Qt.cast (congrArg Value.bool (decide_eq_false h)) (q_leq hx hy)
theorem dgtrt (hx : ev T x = some (.int k a) := by rfl) (hy : ev T y = some (.int k b) := by rfl) (h : b < a := by omega) : Qt P X w0 ⟨dst, .binOp .gtr t x y ty2, ty, pos, af, gu⟩ T L (.bool true) := Qt.cast (congrArg Value.bool (decide_eq_true h)) (q_gtr hx hy)
theorem dgtrf (hx : ev T x = some (.int k a) := by rfl) (hy : ev T y = some (.int k b) := by rfl) (h : ¬ (b < a) := by omega) : Qt P X w0 ⟨dst, .binOp .gtr t x y ty2, ty, pos, af, gu⟩ T L (.bool false) := Qt.cast (congrArg Value.bool (decide_eq_false h)) (q_gtr hx hy)
theorem dgeqt (hx : ev T x = some (.int k a) := by rfl) (hy : ev T y = some (.int k b) := by rfl) (h : b ≤ a := by omega) : Qt P X w0 ⟨dst, .binOp .geq t x y ty2, ty, pos, af, gu⟩ T L (.bool true) := Qt.cast (congrArg Value.bool (decide_eq_true h)) (q_geq hx hy)
theorem dgeqf (hx : ev T x = some (.int k a) := by rfl) (hy : ev T y = some (.int k b) := by rfl) (h : ¬ (b ≤ a) := by omega) : Qt P X w0 ⟨dst, .binOp .geq t x y ty2, ty, pos, af, gu⟩ T L (.bool false) := Qt.cast (congrArg Value.bool (decide_eq_false h)) (q_geq hx hy)
theorem deqlt (hx : ev T x = some (.int k a) := by rfl) (hy : ev T y = some (.int k b) := by rfl) (h : a = b := by omega) : Qt P X w0 ⟨dst, .binOp .eql t x y ty2, ty, pos, af, gu⟩ T L (.bool true) := Qt.cast (congrArg Value.bool (beq_iff_eq.2 h)) (q_eql hx hy)
theorem deqlf (hx : ev T x = some (.int k a) := by rfl) (hy : ev T y = some (.int k b) := by rfl) (h : a ≠ b := by omega) : Qt P X w0 ⟨dst, .binOp .eql t x y ty2, ty, pos, af, gu⟩ T L (.bool false) := Qt.cast (congrArg Value.bool (beq_eq_false_iff_ne.2 h)) (q_eql hx hy)
theorem dneqt (hx : ev T x = some (.int k a) := by rfl) (hy : ev T y = some (.int k b) := by rfl) (h : a ≠ b := by omega) : Qt P X w0 ⟨dst, .binOp .neq t x y ty2, ty, pos, af, gu⟩ T L (.bool true) := Qt.cast (congrArg Value.bool (bne_iff_ne.2 h)) (q_neq hx hy)
theorem dneqf (hx : ev T x = some (.int k a) := by rfl) (hy : ev T y = some (.int k b) := by rfl) (h : a = b := by omega) : Qt P X w0 ⟨dst, .binOp .neq t x y ty2, ty, pos, af, gu⟩ T L (.bool false) := Qt.cast (congrArg Value.bool (bne_eq_false_iff_eq.2 h)) (q_neq hx hy)
/-! ### what writes or makes memory -/
theorem ea [hz : ZrT P t cs] (h : ∀ a w, SS n ((d, .pointer (some ⟨m, 0, none⟩)) :: T) X w0 (m + 1) (.blk m (.cells cs t) :: L) a w → K a w) (hd : Nat.blt d n = true := by rfl) : ∀ a w, SS n T X w0 m L a w → OW P ⟨some d, .alloc t, ty, pos, af, gu⟩ K Qf a w := e_alloc hd h
theorem eb (h : ∀ a w, SS n ((d, .pointer (some ⟨m, 0, none⟩)) :: T) X w0 (m + 1) (.blk m (.cells cs t) :: L) a w → K a w) (hx : ev T x = some (.agg cs) := by rfl) (hd : Nat.blt d n = true := by rfl) : ∀ a w, SS n T X w0 m L a w → OW P ⟨some d, .box t x, ty, pos, af, gu⟩ K Qf a w := e_box_agg hx hd h
theorem eb1 (h : ∀ a w, SS n ((d, .pointer (some ⟨m, 0, none⟩)) :: T) X w0 (m + 1) (.blk m (.cells #[v] t) :: L) a w → K a w) (hx : ev T x = some v := by rfl) (ho : v.oneCell' = true := by rfl) (hd : Nat.blt d n = true := by rfl) : ∀ a w, SS n T X w0 m L a w → OW P ⟨some d, .box t x, ty, pos, af, gu⟩ K Qf a w := e_box_one hx ho hd h
theorem esa {k : Nat} {vs : Array Value} [hs : RwT P t k] (h : ∀ a w, SS n T X w0 m L' a w → K a w) (hx : ev T x = some (.pointer (some ⟨g, 0, none⟩)) := by rfl) (hy : ev T y = some (.agg vs) := by rfl) (hk : vs.size = k := by rfl) (ho : allOne vs.toList = true := by rfl) (hp : Pl (.blk g (.cells cs tt (0, 0))) (.blk g (.cells vs tt (0, 0))) L L' := by repeat (first | exact Pl.here | apply Pl.there)) (hoff : cs.size = k := by rfl)
    (hg : g ∈ X ∨ w0.heap.size ≤ g := by first | (left; simp; done) | (right; omega)) : ∀ a w, SS n T X w0 m L a w → OW P ⟨none, .store t x y, ty, pos, af, gu⟩ K Qf a w := e_store_all hx hy hk ho hp hoff hg h
theorem es1 {l l' : List Value} [hs : SzT P t 1] (h : ∀ a w, SS n T X w0 m L' a w → K a w) (hx : ev T x = some (.pointer (some ⟨g, off, none⟩)) := by rfl) (hy : ev T y = some v := by rfl) (ho : v.oneCell' = true := by rfl) (hm : Chunk.blk g (.cells l.toArray tt (0, 0)) ∈ L := by repeat (first | exact List.Mem.head _ | apply List.Mem.tail)) (hl : setL l off v = l' := by first | (simp only [setL]; try exact rfl) | exact rfl) (hp : Pl (.blk g (.cells l.toArray tt (0, 0))) (.blk g (.cells l'.toArray tt (0, 0))) L L' := by repeat (first | exact Pl.here | apply Pl.there)) (hoff : Nat.blt off l.length = true := by rfl)
    (hg : g ∈ X ∨ w0.heap.size ≤ g := by first | (left; simp; done) | (right; omega)) : ∀ a w, SS n T X w0 m L a w → OW P ⟨none, .store t x y, ty, pos, af, gu⟩ K Qf a w := e_store1l hx hy ho hm hl hp hoff hg h
theorem es2 [hs : SzT P t 1] (h : ∀ a w, SS n T X w0 m L' a w → K a w) (hx : ev T x = some (.pointer (some ⟨g, off, none⟩)) := by rfl) (hy : ev T y = some v := by rfl) (ho : v.oneCell' = true := by rfl) (hp : Pl (.blk g (.cells cs tt (0, 0))) (.blk g (.cells (cs.setIfInBounds off v) tt (0, 0))) L L' := by repeat (first | exact Pl.here | apply Pl.there)) (hoff : off < cs.size := by first | exact lt_of_blt rfl | omega | (simp only [Array.size_setIfInBounds, setA_size]; omega))
    (hg : g ∈ X ∨ w0.heap.size ≤ g := by first | (left; simp; done) | (right; omega)) : ∀ a w, SS n T X w0 m L a w → OW P ⟨none, .store t x y, ty, pos, af, gu⟩ K Qf a w := e_store1 hx hy ho hp hoff hg h
theorem ebs {ps : List (Nat × Operand)} {pv : List (Nat × Value)} {len : Nat} {z : Value} {l' : List Value} [hu : UT P t (.slice e)] [hs : SzT P e sz] [hz : ZrT P e #[z]]
    (h : ∀ a w, SS n ((d, .slice (some ⟨m, 0, none⟩) len len) :: T) X w0 (m + 1) (.blk m (.cells l'.toArray e) :: L) a w → K a w)
    (hp : evp T ps = some pv := by rfl) (hd : Nat.blt d n = true := by rfl) (h1 : sz = 1 := by rfl) (hlen : (Nat.blt 0 len && Nat.ble len 1000000) = true := by rfl) (hf : fillC (placeA 1) (List.replicate len z) pv = l' := by first | (simp only [fillC, placeA, nthP, plOff, setLs, setL, Value.cells, List.replicate, Nat.mul_one, Nat.one_mul, Nat.zero_mul]; try exact rfl) | exact rfl) (hok : fillOk (placeA 1) len pv = true := by rfl) :
    ∀ a w, SS n T X w0 m L a w → OW P ⟨some d, .buildSlice t len ps.toArray, ty, pos, af, gu⟩ K Qf a w := e_buildSlice_of hp hd h1 hlen hf hok h
/-! ### calls -/
theorem ecp {fop : Operand} {xs : List Operand} {ats : Array TypeId} {f : FuncId} {vs : List Value} {v : Value}
    (hf : ev T fop = some (.func (.func f) #[] #[])) (hargs : evs T xs = some vs)
    (hcon : ∀ w, Ch X w0 w → w.heap.size = m → Has L w → CA P f vs w (RV v w))
    (h : ∀ m', m ≤ m' → ∀ a w, SS n ((d, v) :: T) X w0 m' L a w → K a w) (hb : bodied P f = true := by kernel_rfl) (hd : Nat.blt d n = true := by rfl) :
    ∀ a w, SS n T X w0 m L a w → OW P ⟨some d, .call { callee := .value fop, args := xs.toArray, argTypes := ats }, ty, pos, af, gu⟩ K Qf a w := e_callp hf hargs hb hd hcon h
theorem ecl {α : Type} {V : α → Value} {N : α → List Chunk} {Φ : α → Prop} {fop : Operand} {xs : List Operand} {ats : Array TypeId} {f : FuncId} {vs : List Value}
    (hf : ev T fop = some (.func (.func f) #[] #[])) (hargs : evs T xs = some vs)
    (hcon : ∀ w, Ch X w0 w → w.heap.size = m → Has L w → CA P f vs w (Ret V [] N Φ w))
    (h : ∀ z m', Φ z → (∀ g ∈ feet (N z), m ≤ g) → m ≤ m' → ∀ a w, SS n ((d, V z) :: T) X w0 m' (N z ++ L) a w → K a w) (hb : bodied P f = true := by kernel_rfl) (hd : Nat.blt d n = true := by rfl) :
    ∀ a w, SS n T X w0 m L a w → OW P ⟨some d, .call { callee := .value fop, args := xs.toArray, argTypes := ats }, ty, pos, af, gu⟩ K Qf a w :=
  e_call (Y := []) hf hargs hb hd hcon (by simp) (List.Sublist.refl _) (by simp) fun z m' hz hn => h z m' hz fun g hg => (hn g hg).elim (fun h9 => by simp at h9) id
end
end Go.Proofs.YtgmghkakiocmjaaGreatDoor
namespace Go.Proofs.YtgmghkakiocmjaaGreatDoor
open Go Go.RowKit
set_option linter.unusedVariables false
abbrev ME (α : Type) := Int × α × Nat
def mEnt {α : Type} (enc : α → Value) (e : ME α) : MapEntry := { key := .int .i64 e.1, val := enc e.2.1, born := e.2.2 }
def mEs {α : Type} (enc : α → Value) (M : List (ME α)) : Array MapEntry := (M.map (mEnt enc)).toArray
def mFind {α : Type} (M : List (ME α)) (k : Int) : Option α := (M.find? fun e => e.1 == k).map (·.2.1)
theorem findNow_m {α : Type} (enc : α → Value) (k : Int) : ∀ (M : List (ME α)) (i : Nat), ∃ j : Nat, Instr.findNow (.int .i64) (.int .i64 k) (M.map (mEnt enc)) i = some ((mFind M k).map fun x => (j, enc x))
  | [], i => ⟨0, rfl⟩
  | e :: M, i => by
    simp only [List.map_cons, Instr.findNow, mEnt, Instr.sameNow, if_true]
    by_cases h : k = e.1
    · refine ⟨i, ?_⟩
      simp [h, mFind]
    · have h2 : (k == e.1) = false := by simpa using h
      have h3 : (e.1 == k) = false := by simpa using fun h9 => h h9.symm
      rw [h2]
      obtain ⟨j, hj⟩ := findNow_m enc k M (i + 1)
      refine ⟨j, ?_⟩
      simp only [mFind, List.find?_cons, h3] at hj ⊢
      exact hj
section
variable {P : Program} {n m d : Nat} {T : List (Nat × Value)} {X : List Nat} {w0 : World} {L L' : List Chunk} {K : Act → World → Prop} {Qf : Exit → Act → World → Prop} {x y z : Operand} {dst : Option Tmp} {ty t e kt : TypeId} {pos : String} {af : Array Edge} {gu : Option (Nat × Bool)} {v : Value} {α : Type}
theorem checkKey_int (hk : P.underlying kt = some (.int .i64)) (b : Bool) (k : Int) (w : World) : (Instr.checkKey b 10000 kt (.int .i64 k)).run P w = .ok () w := by
  have h : ∀ d : Nat, (Instr.checkKey b (d + 1) kt (.int .i64 k)).run P w = .ok () w := fun d => by simp [Instr.checkKey, run_underlying hk]
  exact h 9999
theorem findKey_m (enc : α → Value) (hk : P.underlying kt = some (.int .i64)) (k : Int) (M : List (ME α)) (w : World) : ∃ j : Nat, (Instr.findKey kt (.int .i64 k) (mEs enc M).toList).run P w = .ok ((mFind M k).map fun x => (j, enc x)) w := by
  obtain ⟨j, hj⟩ := findNow_m enc k M 0
  refine ⟨j, ?_⟩
  simp [Instr.findKey, run_underlying hk, mEs, hj]
theorem getMap {g : Nat} {es : Array MapEntry} {cl : Nat} {w : World} (hb : w.heap[g]? = some (.map es cl)) : (getObj g).run P w = .ok (.map es cl) w := by
  simp [getObj, Sem.run, hb]
theorem setMap {g : Nat} {es : Array MapEntry} {cl : Nat} {w : World} (hb : w.heap[g]? = some (.map es cl)) (o : Obj) : (setObj g o).run P w = .ok () (w.putObj g o) := by
  simp [setObj, Sem.run, hb, World.putObj]
theorem zeroVal {zs : Array Value} (hz : zeroOf P e = some zs) (hs : zs.size ≠ 1) (w : World) : (zeroValue e).run P w = .ok (.agg zs) w := by
  obtain ⟨it, zv, h1, h2, h3⟩ := zeroOf_spec hz
  have h4 : zv = .agg zs := by
    cases zv <;> simp [Value.cells] at h3 <;> first | (rw [h3]) | (exfalso; apply hs; rw [← h3]; rfl)
  simp [zeroValue, typeInfo, h1, h2, h4]
theorem q_lookup_ok (enc : α → Value) (M : List (ME α)) {g cl : Nat} {k : Int} {zs : Array Value} (hx : ev T x = some (.map (some g))) (hy : ev T y = some (.int .i64 k)) [hu : UT P t (.map kt e)] [hk : UT P kt (.int .i64)] [hz : ZrT P e zs] (hs : zs.size ≠ 1)
    (hm : Chunk.blk g (.map (mEs enc M) cl) ∈ L) {r : Option α} (hr : mFind M k = r) (hv : v = (match r with | some a => .tuple #[enc a, .bool true] | none => .tuple #[.agg zs, .bool false])) :
    Qt P X w0 ⟨dst, .lookup t x y true, ty, pos, af, gu⟩ T L v := by
  refine ⟨?_⟩
  intro n ac w hA hC hL
  have hb := hL.ok _ hm
  simp only [Chunk.ok] at hb
  obtain ⟨j, hj⟩ := findKey_m (P := P) enc hk.h k M w
  subst hv
  rw [hr] at hj
  simp only [execOp, hA.eval hx, hA.eval hy, Instr.lookup, Sem.run_bind, run_underlying hu.h, Result.andThen_ok, getMap hb, Sem.run_pure, checkKey_int hk.h, hj]
  cases r with
  | none => simp only [Option.map_none, Sem.run_bind, zeroVal hz.h hs, Result.andThen_ok, Sem.run_pure, if_true]
  | some a => simp only [Option.map_some, Sem.run_bind, Sem.run_pure, Result.andThen_ok, if_true]
theorem q_lookup_at (enc : α → Value) (M : List (ME α)) {g cl : Nat} {k : Int} {a : α} (hx : ev T x = some (.map (some g))) (hy : ev T y = some (.int .i64 k)) [hu : UT P t (.map kt e)] [hk : UT P kt (.int .i64)]
    (hm : Chunk.blk g (.map (mEs enc M) cl) ∈ L) (hr : mFind M k = some a) :
    Qt P X w0 ⟨dst, .lookup t x y false, ty, pos, af, gu⟩ T L (enc a) := by
  refine ⟨?_⟩
  intro n ac w hA hC hL
  have hb := hL.ok _ hm
  simp only [Chunk.ok] at hb
  obtain ⟨j, hj⟩ := findKey_m (P := P) enc hk.h k M w
  rw [hr] at hj
  simp only [execOp, hA.eval hx, hA.eval hy, Instr.lookup, Sem.run_bind, run_underlying hu.h, Result.andThen_ok, getMap hb, Sem.run_pure, checkKey_int hk.h, hj, Option.map_some]
  rfl
theorem e_makeMap (enc : α → Value) (hd : Nat.blt d n = true) (h : ∀ a w, SS n ((d, .map (some m)) :: T) X w0 (m + 1) (.blk m (.map (mEs enc []) 0) :: L) a w → K a w) :
    ∀ a w, SS n T X w0 m L a w → OW P ⟨some d, .makeMap t none, ty, pos, af, gu⟩ K Qf a w := by
  intro a w hs
  obtain ⟨hA, hC, rfl, hL⟩ := hs
  refine wp_value (w' := w.alloc (.map #[] 0)) (v := .map (some w.heap.size)) ?_ (h _ _ ⟨hA.put _ hd, hC.alloc _, by simp, hL.alloc _⟩)
  simp [execOp, run_makeMap]
theorem Ch.setObj {X : List Nat} {a b : World} (h : Ch X a b) {g : Nat} (hg : g ∈ X ∨ a.heap.size ≤ g) (o : Obj) : Ch X a (b.putObj g o) := h.putObj hg o
theorem e_mapNew (enc : α → Value) (M : List (ME α)) {g cl : Nat} {k : Int} (a : α) (hx : ev T x = some (.map (some g))) (hy : ev T y = some (.int .i64 k)) (hz : ev T z = some (enc a)) [hu : UT P t (.map kt e)] [hk : UT P kt (.int .i64)]
    (hr : mFind M k = none) (hp : Pl (.blk g (.map (mEs enc M) cl)) (.blk g (.map (mEs enc (M ++ [(k, a, cl)])) (cl + 1))) L L') (hg : g ∈ X ∨ w0.heap.size ≤ g)
    (h : ∀ a w, SS n T X w0 m L' a w → K a w) : ∀ a w, SS n T X w0 m L a w → OW P ⟨none, .mapUpdate t x y z, ty, pos, af, gu⟩ K Qf a w := by
  intro ac w hs
  obtain ⟨hA, hC, rfl, hL⟩ := hs
  have hb := hL.ok _ hp.mem
  simp only [Chunk.ok] at hb
  have hlt := (Array.getElem?_eq_some_iff.1 hb).1
  obtain ⟨j, hj⟩ := findKey_m (P := P) enc hk.h k M w
  rw [hr] at hj
  have e1 : (mEs enc M).push { key := .int .i64 k, val := enc a, born := cl } = mEs enc (M ++ [(k, a, cl)]) := by simp [mEs, mEnt]
  have hr2 : (Instr.mapUpdate t (.map (some g)) (.int .i64 k) (enc a)).run P w = .ok () (w.putObj g (.map (mEs enc (M ++ [(k, a, cl)])) (cl + 1))) := by
    simp only [Instr.mapUpdate, Sem.run_bind, run_underlying hu.h, Result.andThen_ok, getMap hb, checkKey_int hk.h, hj, Option.map_none, e1]
    exact setMap hb _
  refine wp_skipOp (w' := w.putObj g (.map (mEs enc (M ++ [(k, a, cl)])) (cl + 1))) ?_ (h _ _ ⟨hA.put_none _, hC.putObj hg _, by simp [World.putObj], Has.repl hp hL (fun k hk => .inl hk) (World.putObj_heap_same hlt) (fun k _ hk => World.putObj_heap_other (by simpa [Chunk.foot] using hk))⟩)
  simp only [execOp, hA.eval hx, hA.eval hy, hA.eval hz, Sem.run_bind, hr2, Result.andThen_ok, Sem.run_pure]
theorem e_clearMap (enc : α → Value) (M : List (ME α)) {g cl : Nat} (hx : ev T x = some (.map (some g))) [hu : UT P t (.map kt e)]
    (hp : Pl (.blk g (.map (mEs enc M) cl)) (.blk g (.map (mEs enc []) cl)) L L') (hg : g ∈ X ∨ w0.heap.size ≤ g)
    (h : ∀ a w, SS n T X w0 m L' a w → K a w) : ∀ a w, SS n T X w0 m L a w → OW P ⟨none, .call { callee := .builtin .clear, args := #[x], argTypes := #[t] }, ty, pos, af, gu⟩ K Qf a w := by
  intro ac w hs
  obtain ⟨hA, hC, rfl, hL⟩ := hs
  have hb := hL.ok _ hp.mem
  simp only [Chunk.ok] at hb
  have hlt := (Array.getElem?_eq_some_iff.1 hb).1
  have hr2 : (Builtin.clear_ #[t] ty #[.map (some g)]).run P w = .ok (.tuple #[]) (w.putObj g (.map #[] cl)) := by
    simp [Builtin.clear_, run_underlying hu.h, getMap hb, setMap hb]
  refine wp_value (w' := w.putObj g (.map #[] cl)) (v := .tuple #[]) ?_ (h _ _ ⟨hA.put_none _, hC.putObj hg _, by simp [World.putObj], Has.repl hp hL (fun k hk => .inl hk) (World.putObj_heap_same hlt) (fun k _ hk => World.putObj_heap_other (by simpa [Chunk.foot] using hk))⟩)
  simp only [execOp, resolve, Sem.run_bind, Sem.run_pure, Result.andThen_ok, invoke, List.map_toArray, List.map_cons, List.map_nil, hA.eval hx, builtin, hr2]
end
end Go.Proofs.YtgmghkakiocmjaaGreatDoor
namespace Go.Proofs.YtgmghkakiocmjaaGreatDoor
open Go Go.RowKit
set_option linter.unusedVariables false
section
variable {P : Program} {n m d : Nat} {T : List (Nat × Value)} {X : List Nat} {w0 : World} {L L' : List Chunk} {K : Act → World → Prop} {Q : Exit → Act → World → Prop} {x y : Operand} {ty t e : TypeId} {pos : String} {af : Array Edge} {gu : Option (Nat × Bool)}
theorem e_appN {b : Option Addr} {len cap c2 sz : Nat} {xs : List Value} (hx : ev T x = some (.slice b len cap)) (hy : ev T y = some (.slice none 0 c2)) (hd : Nat.blt d n = true) [hu : UT P t (.slice e)] [hs : SzT P e sz]
    (hm : Chunk.sl b cap e sz xs ∈ L) (hlc : len ≤ cap) (hb : (b = none ∧ len = 0) ∨ ∃ g, b = some ⟨g, 0, none⟩)
    (h : ∀ a w, SS n ((d, .slice b len cap) :: T) X w0 m L a w → K a w) :
    ∀ a w, SS n T X w0 m L a w → OW P ⟨some d, .call { callee := .builtin .append, args := #[x, y], argTypes := #[t, t] }, ty, pos, af, gu⟩ K Q a w := by
  intro a w hs'
  obtain ⟨hA, hC, rfl, hL⟩ := hs'
  have hs1 := hs.h
  rw [Option.map_eq_some_iff] at hs1
  obtain ⟨i, hi, rfl⟩ := hs1
  have hsr := Src.ofNil (P := P) (size := i.size) w hu.h c2
  have hok := hL.ok _ hm
  simp only [Chunk.ok] at hok
  have hr : (Builtin.append_ #[t, t] ty #[.slice b len cap, .slice none 0 c2]).run P w = .ok (.slice b len cap) w := by
    rcases hb with ⟨rfl, rfl⟩ | ⟨g, rfl⟩
    · rcases hok with ⟨_, rfl, _⟩ | ⟨g, cs, h9, _⟩
      · simp [Builtin.append_, run_underlying hu.h, sizeOf, typeInfo, hi, hsr.len, hsr.cells]
      · cases h9
    · have := run_append_room_src (P := P) w t t ty e i hu.h hi g 0 len cap (.slice none 0 c2) 0 [] hsr (by omega) (by simp) (by simp)
      rw [Nat.add_zero] at this
      exact this
  refine wp_value (w' := w) (v := .slice b len cap) ?_ (h _ _ ⟨hA.put _ hd, hC, rfl, hL⟩)
  simp only [execOp, resolve, Sem.run_bind, Sem.run_pure, Result.andThen_ok, invoke, List.map_toArray, List.map_cons, List.map_nil, hA.eval hx, hA.eval hy, builtin, hr]
theorem e_appE {α : Type} (enc : α → Value) (zs ys : List α) {b a2 : Option Addr} {len cap bytes len2 cap2 : Nat} {zz : Value} (hx : ev T x = some (.slice b len cap)) (hy : ev T y = some (.slice a2 len2 cap2)) (hd : Nat.blt d n = true)
    [hu : UT P t (.slice e)] [hs : SzT P e 1] [hb : ByT P e bytes] [hz : ZrT P e #[zz]] (hr : Rm (.sl b cap e 1 (zs.map enc)) L L') (hv : Vw X w0 L a2 (ys.map enc))
    (hlen : zs.length = len) (hlen2 : ys.length = len2) (ho : OS X w0.heap.size b cap len) (hone : allOne (ys.map enc) = true) (hby : (len + len2) * bytes ≤ 140737488355328) (hl9 : len + len2 ≤ 9223372036854775807)
    (h : ∀ b' cap' m', OS X w0.heap.size b' cap' (len + len2) → m ≤ m' → ∀ a w, SS n ((d, .slice b' (len + len2) cap') :: T) X w0 m' (.sl b' cap' e 1 ((zs ++ ys).map enc) :: L') a w → K a w) :
    ∀ a w, SS n T X w0 m L a w → OW P ⟨some d, .call { callee := .builtin .append, args := #[x, y], argTypes := #[t, t] }, ty, pos, af, gu⟩ K Q a w := by
  rcases hv with ⟨rfl, h0⟩ | ⟨p, rfl, hR⟩
  · have hy0 : ys = [] := by simpa using h0
    subst hy0
    obtain rfl : len2 = 0 := by rw [← hlen2]; rfl
    rw [List.append_nil, Nat.add_zero] at h
    exact e_appN hx hy hd hr.mem ho.le ho.ob (frn hr (h b cap m ho (Nat.le_refl _)))
  · exact e_appL enc zs ys hx hy hd hr hR hlen hlen2 ho hone hby hl9 h
end
end Go.Proofs.YtgmghkakiocmjaaGreatDoor
namespace Go.Proofs.YtgmghkakiocmjaaGreatDoor
open Go Go.RowKit
set_option linter.unusedVariables false
section
variable {P : Program} {T : List (Nat × Value)} {X : List Nat} {w0 : World} {L : List Chunk} {x y : Operand} {dst : Option Tmp} {ty t e ty2 : TypeId} {pos : String} {af : Array Edge} {gu : Option (Nat × Bool)}
theorem q_eql_nil {a : Option Addr} {len cap n' c' : Nat} (hx : ev T x = some (.slice a len cap)) (hy : ev T y = some (.slice none n' c')) [hu : UT P t (.slice e)] : Qt P X w0 ⟨dst, .binOp .eql t x y ty2, ty, pos, af, gu⟩ T L (.bool a.isNone) :=
  q_bin_val hx hy (fun w => by simp [eqGuard]) (fun w => Lib.run_eql_slice_nil w _ _ a len cap n' c' hu.h)
end
end Go.Proofs.YtgmghkakiocmjaaGreatDoor
namespace Go.Proofs.YtgmghkakiocmjaaGreatDoor
open Go Go.RowKit
set_option linter.unusedVariables false
section
variable {P : Program} {T : List (Nat × Value)} {X : List Nat} {w0 : World} {L : List Chunk} {x y : Operand} {dst : Option Tmp} {ty t e ty2 : TypeId} {pos : String} {af : Array Edge} {gu : Option (Nat × Bool)}
theorem q_neq_pnil {a : Addr} (hx : ev T x = some (.pointer (some a))) (hy : ev T y = some (.pointer none)) (hu : P.underlying t = some (.pointer (P.pointee t))) : Qt P X w0 ⟨dst, .binOp .neq t x y ty2, ty, pos, af, gu⟩ T L (.bool true) :=
  q_bin_val hx hy (fun w => by simp [eqGuard]) (fun w => by have h := run_neq_pointer_nil (P := P) w t (some a) hu; simpa using h)
end
end Go.Proofs.YtgmghkakiocmjaaGreatDoor
namespace Go.Proofs.YtgmghkakiocmjaaGreatDoor
open Go Go.RowKit
set_option linter.unusedVariables false
inductive Sp : List Chunk → List Chunk → List Chunk → Prop
  | nil {L : List Chunk} : Sp [] L L
  | cons {c : Chunk} {A L L1 L' : List Chunk} (h : Rm c L L1) (hs : Sp A L1 L') : Sp (c :: A) L L'
theorem Rm.perm {c : Chunk} {L L' : List Chunk} (h : Rm c L L') : L.Perm (c :: L') := by
  obtain ⟨A, B, rfl, rfl⟩ := h.split
  exact List.perm_middle
theorem Sp.perm {A L L' : List Chunk} (h : Sp A L L') : L.Perm (A ++ L') := by
  induction h with
  | nil => exact List.Perm.refl _
  | cons h _ ih => exact h.perm.trans (ih.cons _)
theorem Sp.sub {A L L' : List Chunk} (h : Sp A L L') : L'.Sublist L := by
  induction h with
  | nil => exact List.Sublist.refl _
  | cons h _ ih => exact ih.trans h.sub
theorem Sp.has {A L L' : List Chunk} {w : World} (h : Sp A L L') (hL : Has L w) : Has A w ∧ Has L' w ∧ ∀ g ∈ feet A, g ∉ feet L' := by
  have h2 := hL.perm h.perm
  refine ⟨h2.sub (List.sublist_append_left _ _), h2.sub (List.sublist_append_right _ _), fun g hg hm => ?_⟩
  have := h2.apart
  rw [feet_append] at this
  exact (List.nodup_append.1 this).2.2 g hg g hm rfl
section
variable {P : Program} {n m d : Nat} {T : List (Nat × Value)} {X : List Nat} {w0 : World} {L L' A : List Chunk} {K : Act → World → Prop} {Q : Exit → Act → World → Prop}
  {ty : TypeId} {pos : String} {af : Array Edge} {gu : Option (Nat × Bool)}
theorem e_callX {α : Type} {V : α → Value} {N : α → List Chunk} {Φ : α → Prop} {fop : Operand} {xs : List Operand} {ats : Array TypeId} {f : FuncId} {vs : List Value}
    (A : List Chunk) (L2 : α → List Chunk) (hf : ev T fop = some (.func (.func f) #[] #[])) (hargs : evs T xs = some vs) (hb : bodied P f = true) (hd : Nat.blt d n = true)
    (hsp : Sp A L L')
    (hcon : ∀ w, Ch X w0 w → w.heap.size = m → Has A w → Has L' w → (∀ g ∈ feet A, g ∉ feet L') → CA P f vs w (Ret V (feet A) N Φ w))
    (hY : ∀ g ∈ feet A, g ∈ X ∨ w0.heap.size ≤ g) (h2 : ∀ z, N z ++ L' = L2 z)
    (h : ∀ z m', Φ z → (∀ g ∈ feet (N z), g ∈ X ∨ w0.heap.size ≤ g) → m ≤ m' → ∀ a w, SS n ((d, V z) :: T) X w0 m' (L2 z) a w → K a w) :
    ∀ a w, SS n T X w0 m L a w → OW P ⟨some d, .call { callee := .value fop, args := xs.toArray, argTypes := ats }, ty, pos, af, gu⟩ K Q a w := by
  intro a w hs
  have hm0 : w0.heap.size ≤ m := by have := hs.ch.size; have := hs.size; omega
  obtain ⟨_, _, hap⟩ := hsp.has hs.has
  exact e_call (Y := feet A) (L' := L') hf hargs hb hd (fun w hC hm hL => (let ⟨h1, h2, h3⟩ := hsp.has hL; hcon w hC hm h1 h2 h3)) hY hsp.sub hap (fun z m' hz hnew hm' => by rw [h2 z]; exact h z m' hz (fun g hg => (hnew g hg).elim (hY g) (fun h9 => .inr (by omega))) hm') a w hs
end
end Go.Proofs.YtgmghkakiocmjaaGreatDoor
namespace Go.Proofs.YtgmghkakiocmjaaGreatDoor
open Go.ChangeShapes Go.WideShapes Go.ChangeAt Go.RowKit
def Reads (P : Program) (w : World) (t : TypeId) (cs : List Value) : Prop :=
  ∃ (H : Type) (enc : TypeId × Value → H) (fuel : Nat) (x : DataW H × List MemPlace), DataW.trod enc P w 0 (fun _ => true) true fuel t cs = some x
theorem reads_of_trod {H : Type} {enc : TypeId × Value → H} {P : Program} {w : World} {t : TypeId} {v : Value} {d : DataW H} {ps : List MemPlace}
    (h : DataW.Trod enc P w 0 (fun _ => true) true t v d ps) : Reads P w t v.cells.toList := by
  obtain ⟨fuel, hf⟩ := h
  exact ⟨H, enc, fuel, _, hf⟩
section
variable {P : Program} {w : World} {t e : TypeId} {cs : List Value}
theorem Reads.int {k : IntKind} (ht : P.underlying t = some (.int k)) (h : Reads P w t cs) : ∃ n, cs = [.int k n] ∧ (Lit.int k n).wf = true := by
  obtain ⟨H, enc, fuel, x, hf⟩ := h
  cases fuel with
  | zero => simp [DataW.trod] at hf
  | succ m =>
    unfold DataW.trod at hf
    rw [ht] at hf
    split at hf <;> simp_all
theorem Reads.bool (ht : P.underlying t = some .bool) (h : Reads P w t cs) : ∃ b, cs = [.bool b] := by
  obtain ⟨H, enc, fuel, x, hf⟩ := h
  cases fuel with
  | zero => simp [DataW.trod] at hf
  | succ m =>
    unfold DataW.trod at hf
    rw [ht] at hf
    split at hf <;> simp_all
theorem Reads.string (ht : P.underlying t = some .string) (h : Reads P w t cs) : ∃ s, cs = [.string s] ∧ s.size ≤ maxLen := by
  obtain ⟨H, enc, fuel, x, hf⟩ := h
  cases fuel with
  | zero => simp [DataW.trod] at hf
  | succ m =>
    unfold DataW.trod at hf
    rw [ht] at hf
    split at hf <;> simp_all
theorem Reads.array {n : Nat} (ht : P.underlying t = some (.array n e)) (h : Reads P w t cs) :
    cs.length = P.cellsOf t ∧ ∀ i, i < n → Reads P w e ((cs.drop (i * P.cellsOf e)).take (P.cellsOf e)) := by
  obtain ⟨H, enc, fuel, x, hf⟩ := h
  obtain ⟨xs, m, rfl, rfl, hl, hn, he⟩ := DataW.trod_array ht hf
  refine ⟨hl, fun i hi => ?_⟩
  have h1 := he i hi
  rw [List.getElem?_eq_getElem (by omega)] at h1
  exact ⟨H, enc, m, _, h1⟩
theorem mapM_mem {α β : Type} {f : α → Option β} : ∀ {l : List α} {r : List β}, l.mapM f = some r → ∀ a ∈ l, ∃ b, f a = some b
  | [], _, _, a, ha => by simp at ha
  | b :: l, r, h, a, ha => by
    rw [List.mapM_cons] at h
    simp only [Option.bind_eq_bind, Option.bind_eq_some_iff] at h
    obtain ⟨y, hy, ys, hys, _⟩ := h
    rcases List.mem_cons.1 ha with rfl | ha
    · exact ⟨y, hy⟩
    · exact mapM_mem hys a ha
theorem Reads.struct {fs : Array Field} (ht : P.underlying t = some (.struct fs)) (h : Reads P w t cs) :
    cs.length = P.cellsOf t ∧ ∀ f ∈ fs.toList, Reads P w f.type ((cs.drop f.offset).take (P.cellsOf f.type)) := by
  obtain ⟨H, enc, fuel, x, hf⟩ := h
  cases fuel with
  | zero => simp [DataW.trod] at hf
  | succ m =>
    unfold DataW.trod at hf
    rw [ht] at hf
    simp only at hf
    split at hf
    · rename_i hl
      refine ⟨hl, fun f hfm => ?_⟩
      rw [Option.map_eq_some_iff] at hf
      obtain ⟨xs, hxs, _⟩ := hf
      obtain ⟨y, hy⟩ := mapM_mem hxs f hfm
      exact ⟨H, enc, m, _, hy⟩
    · simp at hf
theorem Reads.slice (ht : P.underlying t = some (.slice e)) (h : Reads P w t cs) :
    cs = [.slice none 0 0] ∨ ∃ a len cap, cs = [.slice (some a) len cap] ∧ len ≤ cap ∧ cap ≤ maxLen ∧
      ∀ i, i < cap → ∃ c, w.cells? 0 (a.add (i * P.cellsOf e)) (P.cellsOf e) = some c ∧ Reads P w e c := by
  obtain ⟨H, enc, fuel, x, hf⟩ := h
  cases fuel with
  | zero => simp [DataW.trod] at hf
  | succ m =>
    unfold DataW.trod at hf
    rw [ht] at hf
    split at hf
    all_goals first | (exfalso; simp_all; done) | skip
    · exact .inl rfl
    · rename_i e' a len cap he
      obtain rfl : e = e' := by simpa using he
      dsimp only at hf
      split at hf
      · rename_i hc
        obtain ⟨_, hlen, hcap⟩ := hc
        refine .inr ⟨a, len, cap, rfl, hlen, hcap, fun i hi => ?_⟩
        rw [Option.bind_eq_some_iff] at hf
        obtain ⟨elems, h1, h2⟩ := hf
        rw [if_pos rfl, Option.map_eq_some_iff] at h2
        obtain ⟨rest, h3, _⟩ := h2
        by_cases hil : i < len
        · obtain ⟨y, hy⟩ := mapM_mem h1 i (by simpa using hil)
          rw [Option.bind_eq_some_iff] at hy
          obtain ⟨c, hc1, hc2⟩ := hy
          exact ⟨c, hc1, H, enc, m, _, hc2⟩
        · obtain ⟨y, hy⟩ := mapM_mem h3 (i - len) (by simp; omega)
          rw [show len + (i - len) = i by omega, Option.bind_eq_some_iff] at hy
          obtain ⟨c, hc1, hc2⟩ := hy
          exact ⟨c, hc1, H, enc, m, _, hc2⟩
      · simp at hf
end
end Go.Proofs.YtgmghkakiocmjaaGreatDoor
namespace Go.Proofs.YtgmghkakiocmjaaGreatDoor
open Go Go.RowKit Go.ChangeShapes Go.WideShapes Go.ChangeAt
/-! ### byte slices -/
structure BS (w : World) (a : Option Addr) (len cap : Nat) (xs : List Int) : Prop where
  length : xs.length = len
  le : len ≤ cap
  cap_le : cap ≤ maxLen
  rng : ∀ x ∈ xs, 0 ≤ x ∧ x ≤ 255
  cells : 0 < len → ∃ b off, a = some ⟨b, off, none⟩ ∧ b < w.heap.size ∧ ∀ i, i < len → w.cell? ⟨b, off + i, none⟩ = some (.int .u8 (xs.getD i 0))
theorem BS.below {w w' : World} {a : Option Addr} {len cap : Nat} {xs : List Int} (h : BS w a len cap xs) {B : Nat} (hb : Below B w w') (hB : w.heap.size ≤ B) : BS w' a len cap xs :=
  ⟨h.length, h.le, h.cap_le, h.rng, fun h0 => by
    obtain ⟨b, off, rfl, hlt, hc⟩ := h.cells h0
    refine ⟨b, off, rfl, Nat.lt_of_lt_of_le hlt hb.size, fun i hi => ?_⟩
    rw [hb.cell (show (⟨b, off + i, none⟩ : Addr).block < B by simp; omega)]
    exact hc i hi⟩
end Go.Proofs.YtgmghkakiocmjaaGreatDoor
namespace Go.Proofs.YtgmghkakiocmjaaGreatDoor
open Go Go.RowKit
set_option linter.unusedVariables false
structure SlF {α : Type} (enc : α → List Value) (w : World) (b : Option Addr) (xs : List α) : Prop where
  h : xs = [] ∨ ∃ g o, b = some ⟨g, o, none⟩ ∧ Old w g o (xs.flatMap enc)
theorem SlF.ch0 {α : Type} {enc : α → List Value} {w w' : World} {b : Option Addr} {xs : List α} (h : SlF enc w b xs) (hC : Ch [] w w') : SlF enc w' b xs :=
  ⟨h.h.imp id fun ⟨g, o, e, hO⟩ => ⟨g, o, e, hO.ch hC (by simp)⟩⟩
theorem SlF.get {α : Type} {enc : α → List Value} {w : World} {b : Option Addr} {xs : List α} (h : SlF enc w b xs) {i : Nat} (hi : i < xs.length) : ∃ g o, b = some ⟨g, o, none⟩ ∧ Old w g o (xs.flatMap enc) := by
  rcases h.h with h | h
  · subst h; simp at hi
  · exact h
theorem flatMap_one {α : Type} (f : α → Value) (xs : List α) : xs.flatMap (fun x => [f x]) = xs.map f := by
  induction xs with
  | nil => rfl
  | cons x xs ih => simp [List.flatMap_cons, ih]
theorem SlF.slE {α : Type} {f : α → Value} {w : World} {b : Option Addr} {xs : List α} (h : SlF (fun x => [f x]) w b xs) : SlE f w b xs :=
  ⟨h.h.imp id fun ⟨g, o, e, hO⟩ => ⟨g, o, e, by rw [flatMap_one] at hO; exact hO⟩⟩
theorem flat_at {α : Type} {enc : α → List Value} {sz : Nat} (hsz : ∀ x, (enc x).length = sz) : ∀ {xs : List α} {i : Nat} {x : α}, xs[i]? = some x → ((xs.flatMap enc).drop (i * sz)).take sz = enc x
  | y :: xs, 0, x, h => by
    simp only [List.getElem?_cons_zero, Option.some.injEq] at h
    subst h
    rw [Nat.zero_mul, List.drop_zero, List.flatMap_cons, ← hsz y, List.take_left]
  | y :: xs, i + 1, x, h => by
    rw [List.getElem?_cons_succ] at h
    have := flat_at (enc := enc) hsz h
    rw [List.flatMap_cons, show (i + 1) * sz = (enc y).length + i * sz by rw [hsz, Nat.succ_mul, Nat.add_comm], List.drop_append, List.drop_of_length_le (Nat.le_add_right _ _), List.nil_append, Nat.add_sub_cancel_left]
    exact this
  | [], i, x, h => by simp at h
theorem flat_nth {α : Type} {enc : α → List Value} {sz : Nat} (hsz : ∀ x, (enc x).length = sz) {xs : List α} {i j : Nat} {x : α} (h : xs[i]? = some x) (hj : j < sz) : nth (xs.flatMap enc) (i * sz + j) = nth (enc x) j := by
  have := flat_at hsz h
  rw [nth_eq, nth_eq, ← this, List.getElem?_take, if_pos hj, List.getElem?_drop]
theorem flat_len {α : Type} {enc : α → List Value} {sz : Nat} (hsz : ∀ x, (enc x).length = sz) : ∀ (xs : List α), (xs.flatMap enc).length = xs.length * sz
  | [] => by simp
  | x :: xs => by rw [List.flatMap_cons, List.length_append, hsz, flat_len hsz xs, List.length_cons, Nat.succ_mul, Nat.add_comm]
theorem Old.at {w : World} {g o : Nat} {vs us : List Value} (h : Old w g o vs) (k n : Nat) (e : (vs.drop k).take n = us) : Old w g (o + k) us := ⟨fun j v hj => by
  rw [← e, nth_eq, List.getElem?_take] at hj
  split at hj
  · rw [List.getElem?_drop] at hj
    have := h.cell (k + j) v (by rw [nth_eq]; exact hj)
    rwa [← Nat.add_assoc] at this
  · cases hj⟩
theorem exists_list {α : Type} (p : Nat → α → Prop) : ∀ (n : Nat), (∀ i, i < n → ∃ x, p i x) → ∃ xs : List α, xs.length = n ∧ ∀ i x, xs[i]? = some x → p i x
  | 0, _ => ⟨[], rfl, by simp⟩
  | n + 1, h => by
    obtain ⟨xs, h1, h2⟩ := exists_list p n (fun i hi => h i (by omega))
    obtain ⟨x, hx⟩ := h n (by omega)
    refine ⟨xs ++ [x], by simp [h1], fun i y hy => ?_⟩
    by_cases hi : i < n
    · rw [List.getElem?_append_left (by omega)] at hy; exact h2 i y hy
    · rw [List.getElem?_append_right (by omega)] at hy
      have hi2 : i - xs.length = 0 := by
        rcases Nat.eq_zero_or_pos (i - xs.length) with h | h
        · exact h
        · rw [List.getElem?_eq_none (by simp; omega)] at hy; cases hy
      rw [hi2] at hy
      simp at hy
      obtain rfl : i = n := by omega
      exact hy ▸ hx
theorem mapM_gets {α β : Type} {f : α → Option β} : ∀ {l : List α} {r : List β}, l.mapM f = some r → r.length = l.length ∧ ∀ (i : Nat) (y : β), r[i]? = some y → ∃ x : α, l[i]? = some x ∧ f x = some y
  | [], r, h => by
    simp at h; subst h; simp
  | b :: l, r, h => by
    rw [List.mapM_cons] at h
    simp only [Option.bind_eq_bind, Option.bind_eq_some_iff] at h
    obtain ⟨y, hy, ys, hys, h9⟩ := h
    simp at h9
    subst h9
    obtain ⟨h1, h2⟩ := mapM_gets hys
    refine ⟨by simp [h1], fun i z hz => ?_⟩
    cases i with
    | zero => simp at hz; subst hz; exact ⟨b, rfl, hy⟩
    | succ i => simp at hz; obtain ⟨x, hx1, hx2⟩ := h2 i z hz; exact ⟨x, by simpa using hx1, hx2⟩
theorem addr_add_add (ad : Addr) (a b : Nat) : (ad.add a).add b = ad.add (a + b) := by
  rcases Nat.eq_zero_or_pos a with rfl | h1 <;> rcases Nat.eq_zero_or_pos b with rfl | h2
  · simp [Addr.add]
  · simp [Addr.add]
  · simp [Addr.add]
  · have e1 : a ≠ 0 := by omega
    have e2 : b ≠ 0 := by omega
    have e3 : a + b ≠ 0 := by omega
    simp [Addr.add, e1, e2, Nat.add_assoc]
theorem Reads.rows {P : Program} {w : World} {t e : TypeId} {sz : Nat} (ht : P.underlying t = some (.slice e)) (hce : P.cellsOf e = sz) (hsz0 : 0 < sz) {α : Type} (enc : α → List Value) (good : α → Prop) (hel : ∀ c, Reads P w e c → ∃ x, c = enc x ∧ good x)
    {a : Option Addr} {len cap : Nat} (h : Reads P w t [.slice a len cap]) : ∃ xs : List α, xs.length = len ∧ len ≤ cap ∧ cap ≤ maxLen ∧ SlF enc w a xs ∧ ∀ x ∈ xs, good x := by
  rcases h.slice ht with h | ⟨ad, l, c, hcs, hl, hm, hcell⟩
  · simp at h
    obtain ⟨rfl, rfl, rfl⟩ := h
    exact ⟨[], rfl, Nat.le_refl _, Nat.zero_le _, ⟨.inl rfl⟩, by simp⟩
  · simp at hcs
    obtain ⟨rfl, rfl, rfl⟩ := hcs
    rw [hce] at hcell
    obtain ⟨xs, h1, h2⟩ := exists_list (fun i (x : α) => w.cells? 0 (ad.add (i * sz)) sz = some (enc x) ∧ good x) len (fun i hi => by
      obtain ⟨c, hc, hr⟩ := hcell i (by omega)
      obtain ⟨x, rfl, hg⟩ := hel c hr
      exact ⟨x, hc, hg⟩)
    refine ⟨xs, h1, hl, hm, ⟨?_⟩, fun x hx => ?_⟩
    · by_cases h0 : xs = []
      · exact .inl h0
      · refine .inr ?_
        have key : ∀ i x, xs[i]? = some x → (enc x).length = sz ∧ ∀ j v, (enc x)[j]? = some v → w.cell? (ad.add (i * sz + j)) = some v := by
          intro i x hx
          have := (h2 i x hx).1
          unfold World.cells? at this
          rw [if_pos (Nat.zero_le _)] at this
          obtain ⟨k1, k2⟩ := mapM_gets this
          refine ⟨by simpa using k1, fun j v hj => ?_⟩
          obtain ⟨q, hq1, hq2⟩ := k2 j v hj
          have hj2 : j < sz := by
            have := (List.getElem?_eq_some_iff.1 hj).1
            simp at k1; omega
          rw [List.getElem?_range hj2] at hq1
          simp at hq1
          subst hq1
          rwa [addr_add_add] at hq2
        obtain ⟨x0, hx0⟩ : ∃ x0, xs[0]? = some x0 := by
          cases xs with
          | nil => exact absurd rfl h0
          | cons x _ => exact ⟨x, rfl⟩
        have k0 := key 0 x0 hx0
        obtain ⟨v0, hv0⟩ : ∃ v, (enc x0)[0]? = some v := ⟨_, List.getElem?_eq_getElem (by omega)⟩
        have hc0 := k0.2 0 v0 hv0
        obtain ⟨b, off, spot⟩ := ad
        have hspot : spot = none := by simpa [Addr.add] using World.cell?_spot hc0
        subst hspot
        refine ⟨b, off, rfl, ⟨fun j v hj => ?_⟩⟩
        have hlen : ∀ (ys : List α), (∀ y ∈ ys, (enc y).length = sz) → (ys.flatMap enc).length = ys.length * sz := by
          intro ys hys
          induction ys with
          | nil => simp
          | cons y ys ih => rw [List.flatMap_cons, List.length_append, hys y (by simp), ih (fun z hz => hys z (by simp [hz])), List.length_cons, Nat.succ_mul, Nat.add_comm]
        have hall : ∀ y ∈ xs, (enc y).length = sz := fun y hy => by
          obtain ⟨i, hi, rfl⟩ := List.getElem_of_mem hy
          exact (key i _ (List.getElem?_eq_getElem hi)).1
        have hgen : ∀ (ys : List α), (∀ y ∈ ys, (enc y).length = sz) → ∀ j v, (ys.flatMap enc)[j]? = some v → ∃ x, ys[j / sz]? = some x ∧ (enc x)[j % sz]? = some v := by
          intro ys
          induction ys with
          | nil => intro _ j v h; simp at h
          | cons y ys ih =>
            intro hys j v h
            rw [List.flatMap_cons] at h
            by_cases hj : j < sz
            · rw [List.getElem?_append_left (by rw [hys y (by simp)]; exact hj)] at h
              exact ⟨y, by rw [Nat.div_eq_of_lt hj]; rfl, by rw [Nat.mod_eq_of_lt hj]; exact h⟩
            · rw [List.getElem?_append_right (by rw [hys y (by simp)]; omega), hys y (by simp)] at h
              obtain ⟨x, hx1, hx2⟩ := ih (fun z hz => hys z (by simp [hz])) _ _ h
              have hjs : j = (j - sz) + sz := by omega
              refine ⟨x, ?_, ?_⟩
              · rw [hjs, Nat.add_div_right _ hsz0]; simpa using hx1
              · rw [hjs, Nat.add_mod_right]; exact hx2
        rw [nth_eq] at hj
        obtain ⟨x, hx1, hx2⟩ := hgen xs hall j v hj
        have := (key _ x hx1).2 _ v hx2
        rw [Nat.mul_comm, Nat.div_add_mod] at this
        have hadd : (⟨b, off, none⟩ : Addr).add j = ⟨b, off + j, none⟩ := by simp [Addr.add]
        rwa [hadd] at this
    · obtain ⟨i, hi, rfl⟩ := List.getElem_of_mem hx
      exact (h2 i _ (List.getElem?_eq_getElem hi)).2
theorem Reads.bytes {P : Program} {w : World} {t e : TypeId} (ht : P.underlying t = some (.slice e)) (he : P.underlying e = some (.int .u8)) (hce : P.cellsOf e = 1) {cs : List Value} (h : Reads P w t cs) :
    ∃ a len cap xs, cs = [.slice a len cap] ∧ xs.length = len ∧ len ≤ cap ∧ cap ≤ maxLen ∧ SlE (Value.int .u8) w a xs ∧ ∀ x ∈ xs, 0 ≤ x ∧ x ≤ 255 := by
  have key : ∀ a len cap, cs = [.slice a len cap] → ∃ a len cap xs, cs = [.slice a len cap] ∧ xs.length = len ∧ len ≤ cap ∧ cap ≤ maxLen ∧ SlE (Value.int .u8) w a xs ∧ ∀ x ∈ xs, 0 ≤ x ∧ x ≤ 255 := by
    rintro a len cap rfl
    obtain ⟨xs, h1, h2, h3, h4, h5⟩ := h.rows ht hce (by omega) (fun x : Int => [Value.int .u8 x]) (fun x => 0 ≤ x ∧ x ≤ 255) (fun c hc => by
      obtain ⟨n, rfl, hw⟩ := hc.int he
      exact ⟨n, rfl, bounds_u8 hw⟩)
    exact ⟨a, len, cap, xs, rfl, h1, h2, h3, h4.slE, h5⟩
  rcases h.slice ht with h9 | ⟨ad, l, c, hcs, _⟩
  · exact key _ _ _ h9
  · exact key _ _ _ hcs
end Go.Proofs.YtgmghkakiocmjaaGreatDoor
namespace Go.Proofs.YtgmghkakiocmjaaGreatDoor
open Go Go.RowKit
set_option linter.unusedVariables false
theorem flat_drop {α : Type} {enc : α → List Value} {sz : Nat} (hsz : ∀ x, (enc x).length = sz) : ∀ (xs : List α) (i : Nat), (xs.drop i).flatMap enc = (xs.flatMap enc).drop (i * sz)
  | xs, 0 => by simp
  | [], i + 1 => by simp
  | x :: xs, i + 1 => by
    rw [List.drop_succ_cons, flat_drop hsz xs i, List.flatMap_cons, show (i + 1) * sz = (enc x).length + i * sz by rw [hsz, Nat.succ_mul, Nat.add_comm], List.drop_append, List.drop_of_length_le (Nat.le_add_right _ _), List.nil_append, Nat.add_sub_cancel_left]
theorem flat_take {α : Type} {enc : α → List Value} {sz : Nat} (hsz : ∀ x, (enc x).length = sz) : ∀ (xs : List α) (i : Nat), (xs.take i).flatMap enc = (xs.flatMap enc).take (i * sz)
  | xs, 0 => by simp
  | [], i + 1 => by simp
  | x :: xs, i + 1 => by
    rw [List.take_succ_cons, List.flatMap_cons, List.flatMap_cons, flat_take hsz xs i, show (i + 1) * sz = (enc x).length + i * sz by rw [hsz, Nat.succ_mul, Nat.add_comm], List.take_append, List.take_of_length_le (Nat.le_add_right _ _), Nat.add_sub_cancel_left]
section
variable {P : Program} {n m d : Nat} {T : List (Nat × Value)} {X : List Nat} {w0 : World} {L L' : List Chunk} {K : Act → World → Prop} {Q : Exit → Act → World → Prop}
  {ty t e : TypeId} {pos : String} {af : Array Edge} {gu : Option (Nat × Bool)} {x y : Operand}
theorem Rm.pre (O : List Chunk) (c : Chunk) (R : List Chunk) : Rm c (O ++ c :: R) (O ++ R) := by
  induction O with
  | nil => exact .here
  | cons o O ih => exact .there ih
theorem Sp.pre (O : List Chunk) : ∀ (R : List Chunk), Sp R (O ++ R) O
  | [] => by rw [List.append_nil]; exact .nil
  | c :: R => .cons (Rm.pre O c R) (Sp.pre O R)
theorem fgs {F : Act → World → Prop} {A R : List Chunk} (h : Sp A L R) (k : ∀ a w, SS n T X w0 m A a w → F a w) : ∀ a w, SS n T X w0 m L a w → F a w :=
  fun a w hs => k a w ⟨hs.agr, hs.ch, hs.size, (h.has hs.has).1⟩
end
end Go.Proofs.YtgmghkakiocmjaaGreatDoor
namespace Go.Proofs.YtgmghkakiocmjaaGreatDoor
open Go Go.RowKit
set_option linter.unusedVariables false
def SlB (w : World) (a : Option Addr) (len : Nat) (zs : List Int) : Prop := zs.length = len ∧ (len = 0 ∨ ∃ g o, a = some ⟨g, o, none⟩ ∧ Old w g o (zs.map (Value.int .u8)))
theorem Old.rdN {X : List Nat} {w0 : World} {L : List Chunk} {g : Nat} (hx : g ∉ X) : ∀ {vs : List Value} {o : Nat}, Old w0 g o vs → RdN X w0 L ⟨g, o, none⟩ vs
  | [], _, _ => .nil
  | v :: vs, o, h => .cons (.old (h.cell 0 v rfl) hx) (Old.rdN hx ⟨fun j u hj => by have := h.cell (j + 1) u hj; rwa [show o + (j + 1) = o + 1 + j by omega] at this⟩)
theorem Old.take {w : World} {g o : Nat} {vs : List Value} (h : Old w g o vs) (k : Nat) : Old w g o (vs.take k) := ⟨fun j v hj => h.cell j v (by
  rw [nth_eq, List.getElem?_take] at hj
  split at hj
  · rw [nth_eq]; exact hj
  · cases hj)⟩
theorem SlB.vw {w0 : World} {L : List Chunk} {a : Option Addr} {len : Nat} {zs : List Int} (h : SlB w0 a len zs) : Vw [] w0 L a (zs.map (Value.int .u8)) := by
  obtain ⟨h1, h2⟩ := h
  rcases h2 with h2 | ⟨g, o, rfl, hO⟩
  · have : zs = [] := List.eq_nil_of_length_eq_zero (by omega)
    subst this
    cases a with
    | none => exact .inl ⟨rfl, rfl⟩
    | some p => exact .inr ⟨p, rfl, .nil⟩
  · exact .inr ⟨_, rfl, hO.rdN (by simp)⟩
theorem SlB.ch {w w' : World} {a : Option Addr} {len : Nat} {zs : List Int} (h : SlB w a len zs) (hC : Ch [] w w') : SlB w' a len zs := by
  obtain ⟨h1, h2⟩ := h
  refine ⟨h1, h2.imp id ?_⟩
  rintro ⟨g, o, e, hO⟩
  exact ⟨g, o, e, hO.ch hC (by simp)⟩
theorem SlB.take {w : World} {a : Option Addr} {len : Nat} {zs : List Int} (h : SlB w a len zs) (k : Nat) (hk : k ≤ len) : SlB w a k (zs.take k) := by
  obtain ⟨h1, h2⟩ := h
  refine ⟨by simp; omega, ?_⟩
  rcases h2 with h2 | ⟨g, o, e, hO⟩
  · exact .inl (by omega)
  · exact .inr ⟨g, o, e, by rw [List.map_take]; exact hO.take k⟩
end Go.Proofs.YtgmghkakiocmjaaGreatDoor
namespace Go.Proofs.YtgmghkakiocmjaaGreatDoor
open Go Go.RowKit
set_option linter.unusedVariables false
def hset (H : List Value) (c : Nat) (news : List Value) : List Value := H.take c ++ news ++ H.drop (c + news.length)
theorem hset_len {H news : List Value} {c : Nat} (h : c + news.length ≤ H.length) : (hset H c news).length = H.length := by
  unfold hset; simp; omega
structure HN (N : Nat) (H : List Value) (f : Nat → Int) (c : Nat) : Prop where
  len : H.length = N
  pre : H.take c = (List.range c).map fun q => Value.int .u8 (f q)
theorem HN.copy {N : Nat} {H : List Value} {f : Nat → Int} {c n : Nat} (h : HN N H f c) (hc : c + n ≤ N) : HN N (hset H c ((List.range n).map fun q => Value.int .u8 (f (c + q)))) f (c + n) := by
  refine ⟨by rw [hset_len (by simp [h.len]; omega)]; exact h.len, ?_⟩
  unfold hset
  rw [h.pre, List.take_append_of_le_length (by simp), List.take_of_length_le (by simp), List.range_add, List.map_append, List.map_map]
  rfl
theorem HN.all {N : Nat} {H : List Value} {f : Nat → Int} (h : HN N H f N) : H = (List.range N).map fun q => Value.int .u8 (f q) := by
  rw [← h.pre, List.take_of_length_le (by rw [h.len]; exact Nat.le_refl _)]
theorem SlB.slE {w : World} {b : Option Addr} {len : Nat} {xs : List Int} (h : SlB w b len xs) : SlE (Value.int .u8) w b xs :=
  ⟨h.2.imp (fun e => List.eq_nil_of_length_eq_zero (by rw [h.1, e])) id⟩
theorem SlE.chn {α : Type} {enc : α → Value} {X : List Nat} {w w' : World} {b : Option Addr} {xs : List α} (h : SlE enc w b xs) (hC : Ch X w w') (hx : ∀ g o, b = some ⟨g, o, none⟩ → 0 < xs.length → g ∉ X) : SlE enc w' b xs := by
  rcases h.h with h | ⟨g, o, e, hO⟩
  · exact ⟨.inl h⟩
  · by_cases h0 : xs = []
    · exact ⟨.inl h0⟩
    · exact ⟨.inr ⟨g, o, e, hO.ch hC (hx g o e (List.length_pos_iff.2 h0))⟩⟩
theorem SlE.lt {α : Type} {enc : α → Value} {w : World} {b : Option Addr} {xs : List α} (h : SlE enc w b xs) : ∀ g o, b = some ⟨g, o, none⟩ → 0 < xs.length → g < w.heap.size := by
  intro g o e hl
  obtain ⟨g2, o2, e2, hO⟩ := h.get hl
  rw [e2] at e
  cases e
  cases xs with
  | nil => simp at hl
  | cons x xs => exact World.block_lt_of_cell? w _ (hO.cell 0 _ rfl)
end Go.Proofs.YtgmghkakiocmjaaGreatDoor
