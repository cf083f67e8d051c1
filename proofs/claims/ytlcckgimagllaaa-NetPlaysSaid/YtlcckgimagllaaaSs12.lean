/- The walk by known slots and chunks: regions that draw their order, gone through in every order where several operations that make memory may come next. No program in sight. -/
import Derived.Test.YtlcckgimagllaaaSs11
namespace Go.Proofs.Ytlcckgimagllaaa
open Go Go.RowKit
set_option linter.unusedVariables false
/-- Chunks picked out of others, in whatever order. -/
inductive Sel : List Chunk → List Chunk → Prop
  | nil {L : List Chunk} : Sel [] L
  | cons {c : Chunk} {cs L L1 : List Chunk} (h : Rm c L L1) (hs : Sel cs L1) : Sel (c :: cs) L
theorem Sel.perm {A L : List Chunk} (h : Sel A L) : ∃ R, L.Perm (A ++ R) := by
  induction h with
  | @nil L => exact ⟨L, List.Perm.refl _⟩
  | @cons c cs L L1 hr _ ih =>
    obtain ⟨R, hR⟩ := ih
    obtain ⟨X, Y, rfl, rfl⟩ := hr.split
    exact ⟨R, List.perm_middle.trans (List.Perm.cons c hR)⟩
theorem Has.sel {A L : List Chunk} {w : World} (h : Has L w) (hs : Sel A L) : Has A w := by
  obtain ⟨R, hR⟩ := hs.perm
  exact (h.perm hR).sub (List.sublist_append_left _ _)
section
variable {P : Program} {n m d i : Nat} {T : List (Nat × Value)} {X : List Nat} {w0 : World} {L L' Lw : List Chunk} {ops : Array Oper} {Q : Ct} {x y : Code}
  {op : Op} {ty : TypeId} {pos : String} {af : Array Edge} {gu : Option (Nat × Bool)} {v : Value} {dst : Option Tmp} {F : Act → World → Prop}
/-- Some of the chunks, in another order. -/
theorem slc {T' : List (Nat × Value)} (hT : subT T T') (hL : Sel L' L) (h : ∀ a w, SS n T' X w0 m L' a w → F a w) : ∀ a w, SS n T X w0 m L a w → F a w :=
  fun a w hs => h a w ⟨hs.agr.sub hT, hs.ch, hs.size, hs.has.sel hL⟩
theorem c_joinedS {γ : Type} {T' : γ → List (Nat × Value)} {m' : γ → Nat} {L' : γ → List Chunk} {Φ : γ → Prop} (z : γ) (hT : subT T (T' z)) (hm : m' z = m) (hL : Sel (L' z) L) (hz : Φ z) :
    ∀ a w, SS n T X w0 m L a w → JoinK n X w0 T' m' L' Φ a w :=
  fun a w hs => ⟨z, hz, hs.agr.sub hT, hs.ch, hm ▸ hs.size, hs.has.sel hL⟩

/-- A chunk, otherwise spelt. -/
theorem chgc (c c' : Chunk) (hp : Pl c c' L L') (e : c = c') (h : ∀ a w, SS n T X w0 m L' a w → F a w) : ∀ a w, SS n T X w0 m L a w → F a w := by
  obtain ⟨A, B, rfl, rfl⟩ := hp.split
  subst e
  exact h
theorem take_n (l : List Value) (k : Nat) (h : l.length = k) : (l.toArray.toList.drop 0).take k = l := by
  show (l.drop 0).take k = l
  rw [List.drop_zero, List.take_of_length_le (by omega)]
theorem freeze_at {w : World} {g k : Nat} {cs : Array Value} {tt : TypeId} (h : w.heap[g]? = some (.cells cs tt (0, 0))) : (w.freeze ⟨g, k, none⟩ 1).heap[g]? = some (.cells cs tt (k, k + 1)) := by
  unfold World.freeze
  rw [if_neg (by decide)]
  simp [Array.getElem?_modify, h]
theorem freeze_ne {w : World} {g k j : Nat} (h : j ≠ g) : (w.freeze ⟨g, k, none⟩ 1).heap[j]? = w.heap[j]? := by
  unfold World.freeze
  rw [if_neg (by decide)]
  simp [Array.getElem?_modify, Ne.symm h]
theorem freeze_size {w : World} {g k : Nat} : (w.freeze ⟨g, k, none⟩ 1).heap.size = w.heap.size := by
  unfold World.freeze
  rw [if_neg (by decide)]
  simp
theorem freeze_rest {w : World} {g k : Nat} : (w.freeze ⟨g, k, none⟩ 1).os = w.os ∧ (w.freeze ⟨g, k, none⟩ 1).tape = w.tape ∧ (w.freeze ⟨g, k, none⟩ 1).output = w.output := by
  unfold World.freeze
  rw [if_neg (by decide)]
  exact ⟨rfl, rfl, rfl⟩
/-- '[]byte("..")' of a constant: the literal's row is marked behind its last cell. -/
theorem e_conv_const {t e tt : TypeId} {x : Operand} {g len cap : Nat} {cs : Array Value} {K : Act → World → Prop} {Qf : Exit → Act → World → Prop} (hx : ev T x = some (.slice (some ⟨g, 0, none⟩) len cap)) [hu : UT P t (.slice e)] [he : UT P e (.int .u8)] (hd : Nat.blt d n = true)
    (hp : Pl (.blk g (.cells cs tt (0, 0))) (.blk g (.cells cs tt (cs.size, cs.size + 1))) L L') (hg : g ∈ X ∨ w0.heap.size ≤ g)
    (h : ∀ a w, SS n ((d, .slice (some ⟨g, 0, none⟩) len cap) :: T) X w0 m L' a w → K a w) :
    ∀ a w, SS n T X w0 m L a w → OW P ⟨some d, .convert t t x, ty, pos, af, gu⟩ K Qf a w := by
  intro a w hs'
  obtain ⟨hA, hC, rfl, hL⟩ := hs'
  have hb := hL.ok _ hp.mem
  simp only [Chunk.ok] at hb
  have hsh : w.shape? g = some (tt, cs.size) := by unfold World.shape?; rw [hb]
  refine wp_value (w' := w.freeze ⟨g, cs.size, none⟩ 1) (v := .slice (some ⟨g, 0, none⟩) len cap) ?_ (h _ _ ⟨hA.put _ hd, hC.call (Y := [g]) ⟨freeze_rest.1, freeze_rest.2.1, freeze_rest.2.2, by rw [freeze_size]; exact Nat.le_refl _, fun k _ hk => freeze_ne (by simpa using hk)⟩ (by simpa using hg), freeze_size, Has.repl hp hL (fun k hk => .inl hk) (freeze_at hb) (fun k _ hk => freeze_ne (by simpa [Chunk.foot] using hk))⟩)
  simp [execOp, hA.eval hx, convert, run_underlying hu.h, run_underlying he.h, markStringish, hsh]
/-- A region under way: what is listed. -/
structure XA (P : Program) (ops : Array Oper) (Q : Ct) (X : List Nat) (w0 : World) (Lw : List Chunk) (fuel : Nat) (listed : List Bool) (a : Act) (w : World) : Prop where
  h : wpAnyS P ops (NoPO Q.den) (fun _ => Sof X w0 Lw) fuel listed.toArray a w
/-- What comes behind one that is no reading: the memory that the others read is there still. -/
structure XAK (P : Program) (ops : Array Oper) (Q : Ct) (X : List Nat) (w0 : World) (Lw : List Chunk) (fuel : Nat) (listed : List Bool) (a : Act) (w : World) : Prop where
  s : Sof X w0 Lw w
  h : XA P ops Q X w0 Lw fuel listed a w
def setB : List Bool → Nat → List Bool
  | [], _ => []
  | _ :: l, 0 => true :: l
  | b :: l, i + 1 => b :: setB l i
theorem setB_eq : ∀ (l : List Bool) (i : Nat), l.toArray.setIfInBounds i true = (setB l i).toArray := by
  intro l i
  apply Array.ext'
  rw [Array.toList_setIfInBounds]
  show l.set i true = setB l i
  induction l generalizing i with
  | nil => rfl
  | cons b l ih => cases i with
    | zero => rfl
    | succ i => simp [setB, ih]
theorem xa_region {id : Nat} {l : List Oper} {lf : List Bool} (Lw : List Chunk) (hm : P.follows .mixedOrders = true) (hsel : Region.noSelect l.toArray = true) (hlf : List.replicate l.length false = lf) (hL : Lw.Sublist L)
    (h : ∀ a w, SS n T X w0 m L a w → XA P l.toArray Q X w0 Lw l.length lf a w) (hnd : (Q.ro.isNone || l.all (notDefer ·.op)) = true := by rfl) : ∀ a w, SS n T X w0 m L a w → CW P (Code.region id l.toArray true) Q a w := by
  intro a w hs
  subst hlf
  refine ⟨wpIn_mono (wpIn_region_any hm (wpAnyIn_of (by simpa using hnd) (fun h => (let ⟨_, _, h'⟩ := h; h')) _ _ _ _ (wpAny_of_S (S := fun _ => Sof X w0 Lw) _ _ _ _ ?_))) NoPO.imp⟩
  have h1 := (h a w.drew ⟨hs.agr, hs.ch.drew _, hs.size, hs.has.drew _⟩).h
  have e : Array.replicate l.toArray.size false = (List.replicate l.length false).toArray := by simp
  rw [e]
  exact h1
theorem xa_nil {k : Nat} {l : List Bool} (hr : (Region.ready .any ops l.toArray).isEmpty = true) (hk : k = 0) (h : ∀ a w, SS n T X w0 m L a w → EX Q .normal a w) : ∀ a w, SS n T X w0 m L a w → XA P ops Q X w0 Lw k l a w := by
  intro a w hs
  subst hk
  have h1 := (h a w hs).h
  exact ⟨⟨by simpa using hr, h1⟩⟩
/-- One that reads, or skips. -/
theorem xa_y {k : Nat} {l l2 : List Bool} (hsel : Region.noSelect ops = true) (ho : ops[i]? = some ⟨some d, op, ty, pos, af, gu⟩) (hf : (Region.free .any ops l.toArray i && (Region.ready .any ops l.toArray).contains i) = true) (hl : setB l i = l2)
    (hy : ∀ n a, Agr n T a → YQ P ops (Sof X w0 Lw) ⟨some d, op, ty, pos, af, gu⟩ v a) (hL : Lw.Sublist L) (hd : Nat.blt d n = true) (h : ∀ a w, SS n ((d, v) :: T) X w0 m L a w → XA P ops Q X w0 Lw k l2 a w) :
    ∀ a w, SS n T X w0 m L a w → XA P ops Q X w0 Lw (k + 1) l a w := by
  intro a w hs
  subst hl
  simp only [Bool.and_eq_true] at hf
  refine ⟨anyS_first (S := fun _ => Sof X w0 Lw) ho (Region.noSelect_spec hsel) (fun c a w hp => hp.elim) (fun _ _ => Iff.rfl) k l.toArray a w (Region.free_spec ho hf.1) (fun _ _ _ _ _ _ _ => Iff.rfl) (by simpa using hf.2) ⟨hs.ch, hs.has.sub hL⟩ (hy n a hs.agr) ?_⟩
  rw [setB_eq]
  exact (h _ _ ⟨hs.agr.put v hd, hs.ch, hs.size, hs.has⟩).h
theorem ya_q (hq : Qt P X w0 ⟨dst, op, ty, pos, af, none⟩ T Lw v) : ∀ n a, Agr n T a → YQ P ops (Sof X w0 Lw) ⟨dst, op, ty, pos, af, none⟩ v a :=
  fun n a hA => .inl ⟨by simp [Region.wanted], fun w hw => hq.h n a w hA hw.ch hw.has⟩
theorem ya_g {j : Nat} {b want : Bool} (hg : gd ops T j = some (.bool b)) (hb : (b == want) = true) (hq : Qt P X w0 ⟨dst, op, ty, pos, af, some (j, want)⟩ T Lw v) : ∀ n a, Agr n T a → YQ P ops (Sof X w0 Lw) ⟨dst, op, ty, pos, af, some (j, want)⟩ v a :=
  fun n a hA => .inl ⟨by simp only [Region.wanted, yielded_of hA hg]; simp at hb; simp [hb], fun w hw => hq.h n a w hA hw.ch hw.has⟩
theorem ya_s {j : Nat} {u : Value} {want : Bool} (hg : gd ops T j = some u) (hb : notW u want = true) : ∀ n a, Agr n T a → YQ P ops (Sof X w0 Lw) ⟨dst, op, ty, pos, af, some (j, want)⟩ undef a :=
  fun n a hA => .inr ⟨by have := not_yielded hA hg hb; simpa [Region.wanted] using this, rfl⟩
/-- What may come next, each by itself. -/
structure BR (P : Program) (ops : Array Oper) (Q : Ct) (X : List Nat) (w0 : World) (Lw : List Chunk) (k : Nat) (l : List Bool) (is : List Nat) (a : Act) (w : World) : Prop where
  h : ∀ i ∈ is, wpOp P ops (NoPO Q.den) i (fun a' w' => Sof X w0 Lw w' ∧ wpAnyS P ops (NoPO Q.den) (fun _ => Sof X w0 Lw) k (l.toArray.setIfInBounds i true) a' w') a w
theorem xa_br {k : Nat} {l : List Bool} (i : Nat) (is : List Nat) (hr : Region.ready .any ops l.toArray = i :: is) (h : ∀ a w, SS n T X w0 m L a w → BR P ops Q X w0 Lw k l (i :: is) a w) : ∀ a w, SS n T X w0 m L a w → XA P ops Q X w0 Lw (k + 1) l a w := by
  intro a w hs
  refine ⟨⟨fun h0 => (by rw [hr] at h0; cases h0), fun j hj => ?_⟩⟩
  rw [hr] at hj
  exact (h a w hs).h j hj
theorem br_nil {k : Nat} {l : List Bool} : ∀ a w, SS n T X w0 m L a w → BR P ops Q X w0 Lw k l [] a w := fun a w hs => ⟨fun i hi => by cases hi⟩
theorem br_cons {k : Nat} {l l2 : List Bool} {i : Nat} {is : List Nat} (ho : ops[i]? = some ⟨dst, op, ty, pos, af, none⟩) (hl : setB l i = l2)
    (h : ∀ a w, SS n T X w0 m L a w → OW P ⟨dst, op, ty, pos, af, none⟩ (XAK P ops Q X w0 Lw k l2) (NoPO Q.den) a w) (hs : ∀ a w, SS n T X w0 m L a w → BR P ops Q X w0 Lw k l is a w) :
    ∀ a w, SS n T X w0 m L a w → BR P ops Q X w0 Lw k l (i :: is) a w := by
  intro a w hss
  subst hl
  refine ⟨fun j hj => ?_⟩
  rcases List.mem_cons.1 hj with rfl | hj
  · unfold wpOp
    simp only [ho]
    rw [if_pos (by simp [Region.wanted])]
    exact .inl (Oper.wp_mono (fun a w h => ⟨h.s, by rw [setB_eq]; exact h.h.h⟩) (h a w hss).h)
  · exact (hs a w hss).h j hj
theorem br_want {k : Nat} {l l2 : List Bool} {i j : Nat} {b want : Bool} {is : List Nat} (ho : ops[i]? = some ⟨dst, op, ty, pos, af, some (j, want)⟩) (hg : gd ops T j = some (.bool b)) (hb : (b == want) = true) (hl : setB l i = l2)
    (h : ∀ a w, SS n T X w0 m L a w → OW P ⟨dst, op, ty, pos, af, some (j, want)⟩ (XAK P ops Q X w0 Lw k l2) (NoPO Q.den) a w) (hs : ∀ a w, SS n T X w0 m L a w → BR P ops Q X w0 Lw k l is a w) :
    ∀ a w, SS n T X w0 m L a w → BR P ops Q X w0 Lw k l (i :: is) a w := by
  intro a w hss
  subst hl
  refine ⟨fun j' hj => ?_⟩
  rcases List.mem_cons.1 hj with rfl | hj
  · unfold wpOp
    simp only [ho]
    rw [if_pos (by simp only [Region.wanted, yielded_of hss.agr hg]; simp at hb; simp [hb])]
    exact .inl (Oper.wp_mono (fun a w h => ⟨h.s, by rw [setB_eq]; exact h.h.h⟩) (h a w hss).h)
  · exact (hs a w hss).h j' hj
theorem xa_k {k : Nat} {l : List Bool} (hL : Sel Lw L) (h : ∀ a w, SS n T X w0 m L a w → XA P ops Q X w0 Lw k l a w) : ∀ a w, SS n T X w0 m L a w → XAK P ops Q X w0 Lw k l a w :=
  fun a w hs => ⟨⟨hs.ch, hs.has.sel hL⟩, h a w hs⟩
end
end Go.Proofs.Ytlcckgimagllaaa
