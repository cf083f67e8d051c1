/- The walk by known slots and chunks: operations that write or make memory. No program in sight. -/
import Derived.Test.YtlcckgimagllaaaSs3
import Derived.Laws.IdiomCopy
import Derived.Laws.CopyOwn
import Derived.Laws.MakeOwn
import Derived.Great.Walk
namespace Go.Proofs.Ytlcckgimagllaaa
open Go Go.RowKit
set_option linter.unusedVariables false

/-- Each is one cell. -/
def allOne : List Value → Bool
  | [] => true
  | v :: l => v.oneCell' && allOne l
theorem allOne_mem : ∀ {l : List Value}, allOne l = true → ∀ v ∈ l, v.oneCell' = true
  | [], _, v, h => by simp at h
  | u :: l, h, v, hv => by
    simp only [allOne, Bool.and_eq_true] at h
    rcases List.mem_cons.1 hv with rfl | hv
    · exact h.1
    · exact allOne_mem h.2 v hv
theorem allOne_arr {vs : Array Value} (h : allOne vs.toList = true) : vs.all (·.oneCell') = true := by
  rw [Array.all_eq_true]
  intro i hi
  exact allOne_mem h _ (by simp)
theorem lt_of_blt {a b : Nat} (h : Nat.blt a b = true) : a < b := Nat.blt_eq ▸ h
/-- L with c' in c's place. -/
inductive Pl (c c' : Chunk) : List Chunk → List Chunk → Prop
  | here {R : List Chunk} : Pl c c' (c :: R) (c' :: R)
  | there {d : Chunk} {R R' : List Chunk} (h : Pl c c' R R') : Pl c c' (d :: R) (d :: R')
theorem Pl.split {c c' : Chunk} {L L' : List Chunk} (h : Pl c c' L L') : ∃ A B, L = A ++ c :: B ∧ L' = A ++ c' :: B := by
  induction h with
  | @here R => exact ⟨[], R, rfl, rfl⟩
  | @there d R R' _ ih => obtain ⟨A, B, h1, h2⟩ := ih; exact ⟨d :: A, B, by simp [h1], by simp [h2]⟩
theorem Pl.mem {c c' : Chunk} {L L' : List Chunk} (h : Pl c c' L L') : c ∈ L := by obtain ⟨A, B, rfl, _⟩ := h.split; simp

theorem Has.repl {c c' : Chunk} {L L' : List Chunk} {w w' : World} (hp : Pl c c' L L') (hL : Has L w) (hf : ∀ g ∈ c'.foot, g ∈ c.foot ∨ w.heap.size ≤ g) (hc : c'.ok w') (hk : ∀ k, k < w.heap.size → k ∉ c.foot → w'.heap[k]? = w.heap[k]?) : Has L' w' := by
  obtain ⟨A, B, rfl, rfl⟩ := hp.split
  have hap := hL.apart
  rw [feet_append] at hap
  simp only [feet, List.flatMap_cons] at hap
  have hlt := hL.lt
  have hA : ∀ g ∈ A.flatMap Chunk.foot, g ∉ c.foot ∧ g < w.heap.size := fun g hg => ⟨fun hm => (List.nodup_append.1 hap).2.2 g hg g (List.mem_append_left _ hm) rfl, hlt g (by rw [feet_append]; exact List.mem_append_left _ hg)⟩
  have hB : ∀ g ∈ B.flatMap Chunk.foot, g ∉ c.foot ∧ g < w.heap.size := fun g hg => ⟨fun hm => (List.nodup_append.1 (List.nodup_append.1 hap).2.1).2.2 g hm g hg rfl, hlt g (by rw [feet_append]; exact List.mem_append_right _ (by simp only [feet, List.flatMap_cons]; exact List.mem_append_right _ hg))⟩
  refine ⟨fun d hd => ?_, ?_⟩
  · rcases List.mem_append.1 hd with h | h
    · exact ok_congr (fun g hg => hk g (hA g (List.mem_flatMap.2 ⟨d, h, hg⟩)).2 (hA g (List.mem_flatMap.2 ⟨d, h, hg⟩)).1) (hL.ok d (List.mem_append_left _ h))
    · rcases List.mem_cons.1 h with rfl | h
      · exact hc
      · exact ok_congr (fun g hg => hk g (hB g (List.mem_flatMap.2 ⟨d, h, hg⟩)).2 (hB g (List.mem_flatMap.2 ⟨d, h, hg⟩)).1) (hL.ok d (List.mem_append_right _ (List.mem_cons_of_mem _ h)))
  · rw [feet_append]
    simp only [feet, List.flatMap_cons]
    obtain ⟨n1, n2, n3⟩ := List.nodup_append.1 hap
    obtain ⟨m1, m2, m3⟩ := List.nodup_append.1 n2
    refine List.nodup_append.2 ⟨n1, List.nodup_append.2 ⟨foot_nodup c', m2, fun a ha b hb e => ?_⟩, fun a ha b hb e => ?_⟩
    · subst e
      rcases hf a ha with h | h
      · exact m3 a h a hb rfl
      · have := (hB a hb).2; omega
    · subst e
      rcases List.mem_append.1 hb with h | h
      · rcases hf a h with h' | h'
        · exact (hA a ha).1 h'
        · have := (hA a ha).2; omega
      · exact n3 a ha a (List.mem_append_right _ h) rfl

/-- Cells put one behind the other from a place on. -/
def setA (cs : Array Value) : Nat → List Value → Array Value
  | _, [] => cs
  | o, v :: vs => setA (cs.setIfInBounds o v) (o + 1) vs
theorem setA_size : ∀ (vs : List Value) (cs : Array Value) (o : Nat), (setA cs o vs).size = cs.size
  | [], _, _ => rfl
  | v :: vs, cs, o => by rw [setA, setA_size vs]; simp
theorem setA_toList : ∀ (vs : List Value) (cs : Array Value) (o : Nat), o + vs.length ≤ cs.size → (setA cs o vs).toList = cs.toList.take o ++ vs ++ cs.toList.drop (o + vs.length)
  | [], cs, o, h => by simp [setA]
  | v :: vs, cs, o, h => by
    simp only [List.length_cons] at h
    rw [setA, setA_toList vs _ _ (by simp; omega)]
    simp only [Array.toList_setIfInBounds, List.length_cons]
    rw [List.take_set, List.drop_set, if_pos (by omega), show o + 1 + vs.length = o + (vs.length + 1) by omega]
    rw [List.take_succ_eq_append_getElem (by simp; omega), List.set_append_right _ _ (by rw [List.length_take]; exact Nat.min_le_left _ _)]
    simp [Nat.min_eq_left (show o ≤ cs.size by omega)]
theorem setA_whole {vs : List Value} {cs : Array Value} (h : vs.length = cs.size) : setA cs 0 vs = vs.toArray := by
  apply Array.ext'
  rw [setA_toList vs cs 0 (by omega)]
  simp [h]

theorem cellsOf_setCell {w : World} {g i : Nat} {v : Value} {cs : Array Value} {t : TypeId} {fr : Nat × Nat} (h : w.heap[g]? = some (.cells cs t fr)) : (w.setCell ⟨g, i, none⟩ v).heap[g]? = some (.cells (cs.setIfInBounds i v) t fr) := by
  simp [World.setCell, Array.getElem?_modify, h]
theorem cellsOf_setCells {g : Nat} {t : TypeId} {fr : Nat × Nat} : ∀ (vs : List Value) (o : Nat) (w : World) (cs : Array Value), w.heap[g]? = some (.cells cs t fr) → (w.setCells g o vs).heap[g]? = some (.cells (setA cs o vs) t fr)
  | [], _, _, _, h => h
  | v :: vs, o, w, cs, h => cellsOf_setCells vs (o + 1) _ _ (cellsOf_setCell h)
theorem heap_setCells {g : Nat} : ∀ (vs : List Value) (o : Nat) (w : World) (k : Nat), k ≠ g → (w.setCells g o vs).heap[k]? = w.heap[k]?
  | [], _, _, _, _ => rfl
  | v :: vs, o, w, k, h => by
    rw [World.setCells, heap_setCells vs _ _ k h]
    exact Below.heap_setCell w ⟨g, o, none⟩ v k h
theorem size_setCells {g : Nat} : ∀ (vs : List Value) (o : Nat) (w : World), (w.setCells g o vs).heap.size = w.heap.size
  | [], _, _ => rfl
  | v :: vs, o, w => by rw [World.setCells, size_setCells vs]; simp [World.setCell]
theorem Ch.setCells {X : List Nat} {a : World} {g : Nat} (hg : g ∈ X ∨ a.heap.size ≤ g) : ∀ (vs : List Value) (o : Nat) (b : World), Ch X a b → Ch X a (b.setCells g o vs)
  | [], _, _, h => h
  | v :: vs, o, b, h => Ch.setCells hg vs (o + 1) _ (h.setCell hg v)
theorem there_of {w : World} {g o : Nat} {cs : Array Value} {t : TypeId} {k : Nat} (h : w.heap[g]? = some (.cells cs t (0, 0))) (hk : o + k ≤ cs.size) : w.there g o k := fun j hj => by
  have : o + j < cs.size := by omega
  simp [World.cell?, World.frozen?, h, this]

section
variable {P : Program} {n m d : Nat} {T : List (Nat × Value)} {X : List Nat} {w0 : World} {L L' : List Chunk} {K : Act → World → Prop} {Q : Exit → Act → World → Prop}
  {ty t e tt : TypeId} {pos : String} {af : Array Edge} {gu : Option (Nat × Bool)} {u v v1 v2 : Value} {x y c : Operand} {cs : Array Value} {g off : Nat}

theorem wp_value {o : Oper} {a : Act} {w w' : World} {v : Value} (h : (execOp a.eval o).run P w = .ok (.value v) w') (hk : K (a.put o.dst v) w') : OW P o K Q a w := by
  refine ⟨?_⟩
  unfold Oper.wp; rw [h, Oper.upon_value]; exact hk
theorem wp_skipOp {o : Oper} {a : Act} {w w' : World} (h : (execOp a.eval o).run P w = .ok .skip w') (hk : K (a.put o.dst undef) w') : OW P o K Q a w := by
  refine ⟨?_⟩
  unfold Oper.wp; rw [h, Oper.upon_skip]; exact hk

theorem e_alloc (hd : Nat.blt d n = true) [hz : ZrT P t cs] (h : ∀ a w, SS n ((d, .pointer (some ⟨m, 0, none⟩)) :: T) X w0 (m + 1) (.blk m (.cells cs t) :: L) a w → K a w) :
    ∀ a w, SS n T X w0 m L a w → OW P ⟨some d, .alloc t, ty, pos, af, gu⟩ K Q a w := by
  intro a w hs
  obtain ⟨hA, hC, rfl, hL⟩ := hs
  have hz1 := hz.h
  clear hz
  unfold zeroOf at hz1
  rw [Option.map_eq_some_iff] at hz1
  obtain ⟨z, hz1, rfl⟩ := hz1
  rw [Option.bind_eq_some_iff] at hz1
  obtain ⟨i, hi, hz⟩ := hz1
  refine wp_value (w' := w.alloc (.cells z.cells t)) (v := .pointer (some ⟨w.heap.size, 0, none⟩)) ?_ (h _ _ ⟨hA.put _ hd, hC.alloc _, by simp, hL.alloc _⟩)
  simp [execOp, Instr.alloc, zeroValue, typeInfo, hi, hz, newVar, newRow]
theorem e_box (hx : ev T x = some v) (hd : Nat.blt d n = true) (h : ∀ a w, SS n ((d, .pointer (some ⟨m, 0, none⟩)) :: T) X w0 (m + 1) (.blk m (.cells v.cells t) :: L) a w → K a w) :
    ∀ a w, SS n T X w0 m L a w → OW P ⟨some d, .box t x, ty, pos, af, gu⟩ K Q a w := by
  intro a w hs
  obtain ⟨hA, hC, rfl, hL⟩ := hs
  refine wp_value (w' := w.alloc (.cells v.cells t)) (v := .pointer (some ⟨w.heap.size, 0, none⟩)) ?_ (h _ _ ⟨hA.put _ hd, hC.alloc _, by simp, hL.alloc _⟩)
  simp [execOp, hA.eval hx, Instr.box, newVar, newRow]
theorem e_box_agg (hx : ev T x = some (.agg cs)) (hd : Nat.blt d n = true) (h : ∀ a w, SS n ((d, .pointer (some ⟨m, 0, none⟩)) :: T) X w0 (m + 1) (.blk m (.cells cs t) :: L) a w → K a w) :
    ∀ a w, SS n T X w0 m L a w → OW P ⟨some d, .box t x, ty, pos, af, gu⟩ K Q a w := e_box hx hd h
theorem cells_one (h : v.oneCell' = true) : v.cells = #[v] := by cases v <;> simp_all [Value.cells, Value.oneCell']
theorem e_box_one (hx : ev T x = some v) (ho : v.oneCell' = true) (hd : Nat.blt d n = true) (h : ∀ a w, SS n ((d, .pointer (some ⟨m, 0, none⟩)) :: T) X w0 (m + 1) (.blk m (.cells #[v] t) :: L) a w → K a w) :
    ∀ a w, SS n T X w0 m L a w → OW P ⟨some d, .box t x, ty, pos, af, gu⟩ K Q a w := e_box hx hd (by rw [cells_one ho]; exact h)

theorem size_one [hs : SzT P t 1] {w : World} : (sizeOf t).run P w = .ok 1 w := by
  have hs := hs.h
  rw [Option.map_eq_some_iff] at hs
  obtain ⟨inf, h2, h3⟩ := hs
  simp [sizeOf, typeInfo, h2, h3]

theorem run_store_one {w : World} (hc : w.cell? ⟨g, off, none⟩ = some u) (hf : w.frozen? ⟨g, off, none⟩ = false) (ho : v.oneCell' = true) [hs : SzT P t 1] : (Instr.storeAt t (.pointer (some ⟨g, off, none⟩)) v).run P w = .ok () (w.setCell ⟨g, off, none⟩ v) := by
  have h1 : (store (⟨g, off, none⟩ : Addr) v).run P w = .ok () (w.setCell ⟨g, off, none⟩ v) := by rw [run_store P w _ v _ ho]; simp [hc, hf]
  have h2 : (⟨g, off, none⟩ : Addr).add 0 = ⟨g, off, none⟩ := rfl
  simp [Instr.storeAt, Instr.sureAddr, storeVar, cells_one ho, size_one, storeCells, h2, h1]

/-- A store of one cell. -/
theorem e_store1 (hx : ev T x = some (.pointer (some ⟨g, off, none⟩))) (hy : ev T y = some v) [hs : SzT P t 1] (ho : v.oneCell' = true) (hp : Pl (.blk g (.cells cs tt (0, 0))) (.blk g (.cells (cs.setIfInBounds off v) tt (0, 0))) L L') (hoff : off < cs.size)
    (hg : g ∈ X ∨ w0.heap.size ≤ g) (h : ∀ a w, SS n T X w0 m L' a w → K a w) : ∀ a w, SS n T X w0 m L a w → OW P ⟨none, .store t x y, ty, pos, af, gu⟩ K Q a w := by
  intro a w hs'
  obtain ⟨hA, hC, rfl, hL⟩ := hs'
  have hoff' := hoff
  have hb := hL.ok _ hp.mem
  simp only [Chunk.ok] at hb
  refine wp_skipOp (w' := w.setCell ⟨g, off, none⟩ v) ?_ (h _ _ ⟨hA.put_none _, hC.setCell (p := ⟨g, off, none⟩) hg v, by simp [World.setCell], Has.repl hp hL (fun k hk => .inl hk) (cellsOf_setCell hb) (fun k _ hk => Below.heap_setCell w ⟨g, off, none⟩ v k (by simpa [Chunk.foot] using hk))⟩)
  have h1 := run_store_one (P := P) (t := t) (w := w) (g := g) (off := off) (v := v) (u := cs[off]) (by simp [World.cell?, hb, hoff']) (by simp [World.frozen?, hb]) ho
  simp only [execOp, hA.eval hx, hA.eval hy, Sem.run_bind, h1, Result.andThen_ok, Sem.run_pure]

/-- A store of one cell into cells that are written out. -/
def setL : List Value → Nat → Value → List Value
  | [], _, _ => []
  | _ :: l, 0, v => v :: l
  | u :: l, i + 1, v => u :: setL l i v
theorem setL_eq : ∀ (l : List Value) (i : Nat) (v : Value), setL l i v = l.set i v
  | [], _, _ => rfl
  | _ :: _, 0, _ => rfl
  | u :: l, i + 1, v => by rw [setL, setL_eq l i v]; rfl
theorem e_store1l {l l' : List Value} (hx : ev T x = some (.pointer (some ⟨g, off, none⟩))) (hy : ev T y = some v) [hs : SzT P t 1] (ho : v.oneCell' = true) (hm : Chunk.blk g (.cells l.toArray tt (0, 0)) ∈ L) (hl : setL l off v = l') (hp : Pl (.blk g (.cells l.toArray tt (0, 0))) (.blk g (.cells l'.toArray tt (0, 0))) L L') (hoff : Nat.blt off l.length = true)
    (hg : g ∈ X ∨ w0.heap.size ≤ g) (h : ∀ a w, SS n T X w0 m L' a w → K a w) : ∀ a w, SS n T X w0 m L a w → OW P ⟨none, .store t x y, ty, pos, af, gu⟩ K Q a w := by
  have e : l.toArray.setIfInBounds off v = l'.toArray := by rw [← hl, setL_eq]; simp
  exact e_store1 (cs := l.toArray) (tt := tt) hx hy ho (by rw [e]; exact hp) (by simpa using lt_of_blt hoff) hg h

/-- A store of a whole array or struct, or of one among others. -/
theorem e_store_row {k : Nat} {vs : Array Value} (hx : ev T x = some (.pointer (some ⟨g, off, none⟩))) (hy : ev T y = some (.agg vs)) [hs : RwT P t k] (hk : vs.size = k) (ho : allOne vs.toList = true) (hp : Pl (.blk g (.cells cs tt (0, 0))) (.blk g (.cells (setA cs off vs.toList) tt (0, 0))) L L') (hoff : off + k ≤ cs.size)
    (hg : g ∈ X ∨ w0.heap.size ≤ g) (h : ∀ a w, SS n T X w0 m L' a w → K a w) : ∀ a w, SS n T X w0 m L a w → OW P ⟨none, .store t x y, ty, pos, af, gu⟩ K Q a w := by
  intro a w hs'
  obtain ⟨hA, hC, rfl, hL⟩ := hs'
  subst hk
  have hb := hL.ok _ hp.mem
  simp only [Chunk.ok] at hb
  refine wp_skipOp (w' := w.setCells g off vs.toList) ?_ (h _ _ ⟨hA.put_none _, hC.setCells hg _ _, size_setCells _ _ _, Has.repl hp hL (fun k hk => .inl hk) (cellsOf_setCells _ _ _ _ hb) (fun k _ hk => heap_setCells _ _ _ k (by simpa [Chunk.foot] using hk))⟩)
  have h1 := run_storeAt_mid (P := P) w g off t vs (there_of hb hoff) (rowT_spec hs.h).2 (allOne_arr ho)
  simp only [execOp, hA.eval hx, hA.eval hy, Sem.run_bind, h1, Result.andThen_ok, Sem.run_pure]
/-- The whole of a block. -/
theorem e_store_all {k : Nat} {vs : Array Value} (hx : ev T x = some (.pointer (some ⟨g, 0, none⟩))) (hy : ev T y = some (.agg vs)) [hs : RwT P t k] (hk : vs.size = k) (ho : allOne vs.toList = true) (hp : Pl (.blk g (.cells cs tt (0, 0))) (.blk g (.cells vs tt (0, 0))) L L') (hoff : cs.size = k)
    (hg : g ∈ X ∨ w0.heap.size ≤ g) (h : ∀ a w, SS n T X w0 m L' a w → K a w) : ∀ a w, SS n T X w0 m L a w → OW P ⟨none, .store t x y, ty, pos, af, gu⟩ K Q a w :=
  e_store_row (cs := cs) (tt := tt) hx hy hk ho (by rw [setA_whole (by simp [hk, hoff])]; exact hp) (by omega) hg h

/-- A store into a slice of the call's own. -/
theorem e_store_sl {cap sz : Nat} {xs : List Value} (hx : ev T x = some (.pointer (some ⟨g, off, none⟩))) (hy : ev T y = some v) [hs : SzT P t 1] (ho : v.oneCell' = true) (hp : Pl (.sl (some ⟨g, 0, none⟩) cap tt sz xs) (.sl (some ⟨g, 0, none⟩) cap tt sz (xs.set off v)) L L') (hoff : off < xs.length)
    (hg : g ∈ X ∨ w0.heap.size ≤ g) (h : ∀ a w, SS n T X w0 m L' a w → K a w) : ∀ a w, SS n T X w0 m L a w → OW P ⟨none, .store t x y, ty, pos, af, gu⟩ K Q a w := by
  intro a w hs'
  obtain ⟨hA, hC, rfl, hL⟩ := hs'
  have hb := hL.ok _ hp.mem
  simp only [Chunk.ok] at hb
  rcases hb with ⟨hb, _⟩ | ⟨g', cs, hb, h1, h2, h3⟩
  · simp at hb
  simp only [Option.some.injEq, Addr.mk.injEq, and_true] at hb
  subst hb
  have hlen : xs.length ≤ cs.size := by have := congrArg List.length h3; simp only [List.length_take, Array.length_toList] at this; omega
  refine wp_skipOp (w' := w.setCell ⟨g, off, none⟩ v) ?_ (h _ _ ⟨hA.put_none _, hC.setCell (p := ⟨g, off, none⟩) hg v, by simp [World.setCell], Has.repl hp hL (fun k hk => .inl hk) (.inr ⟨g, _, rfl, cellsOf_setCell h1, by simpa using h2, ?_⟩) (fun k _ hk => Below.heap_setCell w ⟨g, off, none⟩ v k (by simpa [Chunk.foot] using hk))⟩)
  · have h4 := run_store_one (P := P) (t := t) (w := w) (g := g) (off := off) (v := v) (u := cs[off]) (by simp [World.cell?, h1, show off < cs.size by omega]) (by simp [World.frozen?, h1]) ho
    simp only [execOp, hA.eval hx, hA.eval hy, Sem.run_bind, h4, Result.andThen_ok, Sem.run_pure]
  · rw [List.length_set, Array.toList_setIfInBounds, List.take_set, h3]

/-! ### slices made -/
theorem e_make {sz bytes : Nat} {k k' : IntKind} {l c : Int} {zs : Array Value} (hx : ev T x = some (.int k l)) (hy : ev T y = some (.int k' c)) (hd : Nat.blt d n = true) [hu : UT P t (.slice e)] [hz : ZrT P e zs] [hs : SzT P e sz] [hb : ByT P e bytes]
    (h0 : 0 ≤ l) (h1 : l ≤ c) (h2 : (bytes : Int) * c ≤ 281474976710656) (h3 : c ≤ 9223372036854775807)
    (h : ∀ a w, SS n ((d, .slice (some ⟨m, 0, none⟩) l.toNat c.toNat) :: T) X w0 (m + 1) (.sl (some ⟨m, 0, none⟩) c.toNat e sz (madeCells zs (c.toNat * sz)).toList :: L) a w → K a w) :
    ∀ a w, SS n T X w0 m L a w → OW P ⟨some d, .makeSlice t x y, ty, pos, af, gu⟩ K Q a w := by
  intro a w hs'
  obtain ⟨hA, hC, rfl, hL⟩ := hs'
  have hz1 := hz.h
  clear hz
  unfold zeroOf at hz1
  rw [Option.map_eq_some_iff] at hz1
  obtain ⟨z, hz1, rfl⟩ := hz1
  rw [Option.bind_eq_some_iff] at hz1
  obtain ⟨i, hi, hz⟩ := hz1
  have hs1 := hs.h
  have hb1 := hb.h
  simp only [hi, Option.map_some, Option.some.injEq] at hs1 hb1
  subst hs1
  subst hb1
  have hr := run_make (P := P) w t e i z hu.h hi hz k k' l c h0 h1 h2 h3
  refine wp_value (w' := w.alloc (.cells (madeCells z.cells (c.toNat * i.size)) e)) (v := .slice (some ⟨w.heap.size, 0, none⟩) l.toNat c.toNat) ?_ (h _ _ ⟨hA.put _ hd, hC.alloc _, by simp, ?_⟩)
  · simp only [execOp, hA.eval hx, hA.eval hy, Sem.run_bind, hr, Result.andThen_ok, Sem.run_pure]
  · have h4 := hL.alloc (.cells (madeCells z.cells (c.toNat * i.size)) e)
    refine Has.repl (w := w.alloc _) (c := .blk w.heap.size _) .here h4 (fun k hk => .inl (by simpa [Chunk.foot] using hk)) (.inr ⟨w.heap.size, _, rfl, h4.ok _ (List.mem_cons_self ..), size_madeCells _ _, by rw [Array.length_toList, ← Array.length_toList, List.take_length]⟩) (fun _ _ _ => rfl)

theorem madeCells_one (z : Value) (k : Nat) : (madeCells #[z] k).toList = List.replicate k z := by
  apply List.ext_getElem
  · simp [madeCells]
  · intro i h1 h2
    simp [madeCells, Nat.mod_one]
/-- Of elements of one cell. -/
theorem e_make1 {bytes : Nat} {k k' : IntKind} {l c : Int} {z : Value} (hx : ev T x = some (.int k l)) (hy : ev T y = some (.int k' c)) (hd : Nat.blt d n = true) [hu : UT P t (.slice e)] [hz : ZrT P e #[z]] [hs : SzT P e 1] [hb : ByT P e bytes]
    (h0 : 0 ≤ l) (h1 : l ≤ c) (h2 : (bytes : Int) * c ≤ 281474976710656) (h3 : c ≤ 9223372036854775807)
    (h : ∀ a w, SS n ((d, .slice (some ⟨m, 0, none⟩) l.toNat c.toNat) :: T) X w0 (m + 1) (.sl (some ⟨m, 0, none⟩) c.toNat e 1 (List.replicate c.toNat z) :: L) a w → K a w) :
    ∀ a w, SS n T X w0 m L a w → OW P ⟨some d, .makeSlice t x y, ty, pos, af, gu⟩ K Q a w :=
  e_make (zs := #[z]) hx hy hd h0 h1 h2 h3 (by rw [madeCells_one, Nat.mul_one]; exact h)

theorem e_buildSlice {parts : Array (Nat × Operand)} {pv : List (Nat × Value)} {len : Nat} {cells : Array Value} (hp : (parts.map fun (i, x) => ((i, ev T x) : Nat × Option Value)).toList = pv.map fun (i, v) => (i, some v)) (hd : Nat.blt d n = true) [hu : UT P t (.slice e)]
    (hb : Program.builtSlice P e len pv = some cells)
    (h : ∀ a w, SS n ((d, .slice (some ⟨m, 0, none⟩) len len) :: T) X w0 (m + 1) (.blk m (.cells cells e) :: L) a w → K a w) :
    ∀ a w, SS n T X w0 m L a w → OW P ⟨some d, .buildSlice t len parts, ty, pos, af, gu⟩ K Q a w := by
  intro a w hs'
  obtain ⟨hA, hC, rfl, hL⟩ := hs'
  have e1 : (parts.map fun (i, x) => (i, a.eval x)).toList = pv := by
    rw [Array.toList_map] at hp ⊢
    generalize parts.toList = l at hp ⊢
    clear hb h
    induction l generalizing pv with
    | nil => cases pv <;> simp_all
    | cons q l ih =>
      cases pv with
      | nil => simp at hp
      | cons r pv =>
        obtain ⟨i, x⟩ := q
        obtain ⟨j, u⟩ := r
        simp only [List.map_cons, List.cons.injEq, Prod.mk.injEq] at hp ⊢
        exact ⟨⟨hp.1.1, hA.eval hp.1.2⟩, ih hp.2⟩
  unfold Program.builtSlice at hb
  cases hie : P.info? e with
  | none => simp [hie] at hb
  | some ie =>
    simp only [hie] at hb
    cases hz : ie.zero with
    | none => simp [hz] at hb
    | some z =>
      simp only [hz] at hb
      by_cases hc : len * ie.size > 2 ^ 24 ∨ len * ie.size = 0
      · simp [hc] at hb
      · rw [if_neg hc] at hb
        have hr := run_buildSlice (P := P) w t e len (parts.map fun (i, x) => (i, a.eval x)) cells ie z hu.h hie hz (fun h' => hc (Or.inl h')) (fun h' => hc (Or.inr h')) (by rw [e1]; exact hb)
        refine wp_value (w' := w.alloc (.cells cells e)) (v := .slice (some ⟨w.heap.size, 0, none⟩) len len) ?_ (h _ _ ⟨hA.put _ hd, hC.alloc _, by simp, hL.alloc _⟩)
        simp only [execOp, Sem.run_bind, hr, Result.andThen_ok, Sem.run_pure]

/-- A nil slice is of the call's own. -/
theorem add_nil {F : Act → World → Prop} (e : TypeId) (sz : Nat) (h : ∀ a w, SS n T X w0 m (.sl none 0 e sz [] :: L) a w → F a w) : ∀ a w, SS n T X w0 m L a w → F a w := by
  intro a w hs
  exact h a w ⟨hs.agr, hs.ch, hs.size, hs.has.cons (.inl ⟨rfl, rfl, rfl⟩) (by simp [Chunk.foot]) (by simp [Chunk.foot])⟩

/-! ### views -/
/-- A slice's values: nil, or read from its place. -/
def Vw (X : List Nat) (w0 : World) (L : List Chunk) (b : Option Addr) (vs : List Value) : Prop := (b = none ∧ vs = []) ∨ ∃ p, b = some p ∧ RdN X w0 L p vs

theorem Src.ofVw {sz : Nat} {tx e' : TypeId} (hk : P.underlying tx = some (.slice e')) {b : Option Addr} {len cap : Nat} {news : List Value} (hv : Vw X w0 L b news) (hl : news.length = len * sz) (hz : b = none → len = 0) (h1 : ∀ u ∈ news, u.oneCell' = true) {w : World} (hC : Ch X w0 w) (hL : Has L w) : Src P sz tx (.slice b len cap) len news w := by
  rcases hv with ⟨rfl, rfl⟩ | ⟨p, rfl, hr⟩
  · obtain rfl := hz rfl
    exact Src.ofNil w hk cap
  · exact Src.ofSlice w hk p len cap news hl (hr.cells hC hL) h1

theorem run_bytes_zero {src e : TypeId} (hs : P.underlying src = some (.slice e)) (he : P.underlying e = some (.int .u8)) (ht : P.underlying t = some .string) (b : Option Addr) (cap : Nat) (w : World) :
    (convert src t (.slice b 0 cap)).run P w = .ok (.string (strOfNums [])) w := by
  cases b <;> simp [convert, run_underlying hs, run_underlying ht, run_underlying he, Conv.bytesToString, loadCells, loadCellsFrom] <;> rfl
theorem q_conv_bytes {b : Option Addr} {len cap : Nat} {xs : List Int} {src e : TypeId} (hx : ev T x = some (.slice b len cap)) [hs : UT P src (.slice e)] [he : UT P e (.int .u8)] [ht : UT P t .string] (hv : Vw X w0 L b (xs.map (Value.int .u8))) (hl : xs.length = len) {dst : Option Tmp} :
    Qt P X w0 ⟨dst, .convert src t x, ty, pos, af, gu⟩ T L (.string (strOfNums xs)) := by
  refine ⟨?_⟩
  intro n ac w hA hC hL
  have key : (convert src t (.slice b len cap)).run P w = .ok (.string (strOfNums xs)) w := by
    rcases hv with ⟨rfl, h2⟩ | ⟨p, rfl, hr⟩
    · obtain rfl : xs = [] := by simpa using h2
      subst hl
      exact run_bytes_zero hs.h he.h ht.h none cap w
    · rcases xs with _ | ⟨x0, xs⟩
      · subst hl
        exact run_bytes_zero hs.h he.h ht.h (some p) cap w
      · have hc := hr.cells hC hL
        have h0 := (hr.rd 0 _ rfl).1
        obtain ⟨g, o, s⟩ := p
        simp only at h0
        subst h0
        have hc' : ∀ i, i < len → w.cell? ⟨g, o + i, none⟩ = some (.int .u8 ((x0 :: xs).getD i 0)) := fun i hi => by
          have hi' : i < (x0 :: xs).length := by omega
          have h5 := hc i (.int .u8 ((x0 :: xs).getD i 0)) (by rw [List.getElem?_map, List.getElem?_eq_getElem hi', List.getD, List.getElem?_eq_getElem hi']; rfl)
          rwa [Addr.add_mid] at h5
        exact run_convert_bytes_arg w src e hs.h he.h g o len cap (x0 :: xs) hl hc' t ht.h
  simp only [execOp, hA.eval hx, Sem.run_bind, key, Result.andThen_ok, Sem.run_pure]
end
end Go.Proofs.Ytlcckgimagllaaa
