/- Byte slices as lists of numbers; blocks known whole. No program in sight. -/
import Derived.Test.YtlcckgimagllaaaRead
import Derived.Laws.BytesArg
import Derived.Laws.CopyOwn
import Derived.Laws.MakeOwn
import Derived.OwnWalk
import Derived.Shelf.Bytes.SlSmallAll
import Derived.WalkSmall
import Derived.Laws.Rows
import Derived.Deep.MidRow
namespace Go.Proofs.Ytlcckgimagllaaa
open Go Go.RowKit Go.ChangeShapes Go.WideShapes Go.ChangeAt

/-! ### blocks known whole -/
theorem cell_blk {w : World} {g i : Nat} {cs : Array Value} {t : TypeId} {fr : Nat × Nat} (h : w.heap[g]? = some (.cells cs t fr)) : w.cell? ⟨g, i, none⟩ = cs[i]? := by
  simp [World.cell?, h]
theorem free_blk {w : World} {g i : Nat} {cs : Array Value} {t : TypeId} (h : w.heap[g]? = some (.cells cs t (0, 0))) : w.frozen? ⟨g, i, none⟩ = false := by
  simp [World.frozen?, h]
theorem set_blk {w : World} {g i : Nat} {v : Value} {cs : Array Value} {t : TypeId} {fr : Nat × Nat} (h : w.heap[g]? = some (.cells cs t fr)) : (w.setCell ⟨g, i, none⟩ v).heap[g]? = some (.cells (cs.setIfInBounds i v) t fr) := by
  have hlt : g < w.heap.size := by
    rcases Nat.lt_or_ge g w.heap.size with h' | h'
    · exact h'
    · simp [Array.getElem?_eq_none h'] at h
  have e : w.heap[g] = .cells cs t fr := by rw [Array.getElem?_eq_getElem hlt] at h; exact Option.some.inj h
  rw [Array.getElem?_eq_getElem (by simp [World.setCell, hlt])]
  simp [World.setCell, Array.getElem_modify, e]
theorem lt_of_blk {w : World} {g : Nat} {o : Obj} (h : w.heap[g]? = some o) : g < w.heap.size := by
  rcases Nat.lt_or_ge g w.heap.size with h' | h'
  · exact h'
  · simp [Array.getElem?_eq_none h'] at h

/-- A whole array or struct loaded out of a block that is known whole; the operation may be guarded. -/
theorem wpList_load_blk {P : Program} {ops : Array Oper} {rest : List Oper} {o : Oper} {a : Act} {w : World} {Q : Exit → Act → World → Prop} (ty : TypeId) (x : Operand) (ho : o.op = .load ty x) (hw : Region.wanted o (yielded ops a.tmps) = true)
    (g : Nat) (hx : a.eval x = .pointer (some ⟨g, 0, none⟩)) (t : TypeId) (cs : Array Value) (fr : Nat × Nat) (d : TypeDesc) (hg : w.heap[g]? = some (.cells cs t fr))
    (hu : P.underlying ty = some d) (hd : (match d with | .struct _ | .array _ _ => true | _ => false) = true) (hi : (P.info? ty).map (·.size) = some cs.size)
    (h : wpList P ops Q rest (a.put o.dst (.agg cs)) w) : wpList P ops Q (o :: rest) a w :=
  wpList_step fun _ hK => by rw [if_pos hw]; exact wp_load_row ty x ho g hx t cs fr d hg hu hd hi (hK _ _ h)

theorem setCells_keeps (g : Nat) : ∀ (vs : List Value) (o : Nat) (w : World) (cs : Array Value) (t : TypeId), w.heap[g]? = some (.cells cs t (0, 0)) →
    ∃ cs', (w.setCells g o vs).heap[g]? = some (.cells cs' t (0, 0)) ∧ cs'.size = cs.size ∧ (w.setCells g o vs).heap.size = w.heap.size ∧ (∀ k, k ≠ g → (w.setCells g o vs).heap[k]? = w.heap[k]?) ∧ ∀ B w0, B ≤ g → Below B w0 w → Below B w0 (w.setCells g o vs)
  | [], _, w, cs, t, h => ⟨cs, h, rfl, rfl, fun _ _ => rfl, fun _ _ _ hb => hb⟩
  | v :: vs, o, w, cs, t, h => by
    obtain ⟨cs', h1, h2, h3, h4, h5⟩ := setCells_keeps g vs (o + 1) (w.setCell ⟨g, o, none⟩ v) _ t (set_blk (i := o) (v := v) h)
    refine ⟨cs', h1, by rw [h2]; simp, by show (World.setCells (w.setCell ⟨g, o, none⟩ v) g (o + 1) vs).heap.size = _; rw [h3]; simp, fun k hk => ?_, fun B w0 hB hb => h5 B w0 hB (hb.setCell hB _)⟩
    show (World.setCells (w.setCell ⟨g, o, none⟩ v) g (o + 1) vs).heap[k]? = _
    rw [h4 k hk]
    exact Below.heap_setCell w ⟨g, o, none⟩ v k hk

theorem setCells_whole {g : Nat} {w : World} {cs new : Array Value} {t : TypeId} (h : w.heap[g]? = some (.cells cs t (0, 0))) (hsz : cs.size = new.size) :
    (w.setCells g 0 new.toList).heap[g]? = some (.cells new t (0, 0)) := by
  obtain ⟨cs', h1, h2, _⟩ := setCells_keeps g new.toList 0 w cs t h
  rw [h1]
  congr 2
  refine Array.ext (by rw [h2, hsz]) fun i hi hi' => ?_
  have hc := World.cell?_setCells_in g new.toList 0 w (fun i hi => by
    rw [cell_blk h, Array.getElem?_eq_getElem (by rw [hsz]; simpa using hi)]; rfl) i (by simpa using hi')
  rw [cell_blk h1] at hc
  rw [Nat.zero_add, Array.getElem?_eq_getElem hi] at hc
  simpa using hc

/-- A whole array or struct stored into a block that is known whole. -/
theorem wpList_store_blk {P : Program} {ops : Array Oper} {rest : List Oper} {o : Oper} {a : Act} {w : World} {Q : Exit → Act → World → Prop} (hgd : o.guard = none) (ty : TypeId) (x y : Operand) (ho : o.op = .store ty x y)
    (g : Nat) (hx : a.eval x = .pointer (some ⟨g, 0, none⟩)) (new : Array Value) (hy : a.eval y = .agg new) (cs : Array Value) (t : TypeId) (hg : w.heap[g]? = some (.cells cs t (0, 0))) (hsz : cs.size = new.size)
    (hi : (P.info? ty).map (·.size) = some new.size) (h1 : new.all (·.oneCell') = true) (B : Nat) (w0 : World) (hb : Below B w0 w) (hB : B ≤ g)
    (h : ∀ w', Hid (w'.heap[g]? = some (.cells new t (0, 0))) → Below B w0 w' → w'.heap.size = w.heap.size → Hid (∀ k, k ≠ g → w'.heap[k]? = w.heap[k]?) → wpList P ops Q rest (a.put o.dst undef) w') : wpList P ops Q (o :: rest) a w := by
  obtain ⟨_, _, _, k3, k4, k5⟩ := setCells_keeps g new.toList 0 w cs t hg
  exact wpList_store_mid hgd ty x y ho g 0 new hx hy (fun j hj => ⟨by rw [Nat.zero_add, cell_blk hg, Array.getElem?_eq_getElem (by omega)]; rfl, free_blk hg⟩) hi h1 (h _ (setCells_whole hg hsz) (k5 B w0 hB hb) k3 k4)

/-! ### byte slices -/
structure BS (w : World) (a : Option Addr) (len cap : Nat) (xs : List Int) : Prop where
  length : xs.length = len
  le : len ≤ cap
  cap_le : cap ≤ maxLen
  rng : ∀ x ∈ xs, 0 ≤ x ∧ x ≤ 255
  cells : 0 < len → ∃ b off, a = some ⟨b, off, none⟩ ∧ b < w.heap.size ∧ ∀ i, i < len → w.cell? ⟨b, off + i, none⟩ = some (.int .u8 (xs.getD i 0))

theorem BS.below {w w' : World} {a : Option Addr} {len cap : Nat} {xs : List Int} (h : BS w a len cap xs) {B : Nat} (hb : Below B w w') (hB : w.heap.size ≤ B) : BS w' a len cap xs :=
  ⟨h.length, h.le, h.cap_le, h.rng, fun h0 => by
    obtain ⟨b, off, rfl, hlt, hc⟩ := h.cells h0
    refine ⟨b, off, rfl, Nat.lt_of_lt_of_le hlt hb.size, fun i hi => ?_⟩
    rw [hb.cell (show (⟨b, off + i, none⟩ : Addr).block < B by simp; omega)]
    exact hc i hi⟩

theorem BS.conv {P : Program} {w : World} {a : Option Addr} {len cap : Nat} {xs : List Int} (h : BS w a len cap xs) {src e dst : TypeId} (hs : P.underlying src = some (.slice e)) (he : P.underlying e = some (.int .u8)) (hd : P.underlying dst = some .string) :
    (convert src dst (.slice a len cap)).run P w = .ok (.string (strOfNums xs)) w := by
  rcases Nat.eq_zero_or_pos len with h0 | h0
  · have hx : xs = [] := List.eq_nil_of_length_eq_zero (by rw [h.length, h0])
    subst h0
    rw [hx]
    exact run_convert_bytes_zero w src e hs he a cap dst hd
  · obtain ⟨b, off, rfl, _, hc⟩ := h.cells h0
    exact run_convert_bytes_arg w src e hs he b off len cap xs h.length hc dst hd

/-- Two strings of bytes are equal as their numbers are. -/
theorem strOfNums_beq {xs ys : List Int} (hx : ∀ x ∈ xs, 0 ≤ x ∧ x ≤ 255) (hy : ∀ x ∈ ys, 0 ≤ x ∧ x ≤ 255) : ((strOfNums xs).toList == (strOfNums ys).toList) = (xs == ys) := by
  have key : ∀ (xs ys : List Int), (∀ x ∈ xs, 0 ≤ x ∧ x ≤ 255) → (∀ x ∈ ys, 0 ≤ x ∧ x ≤ 255) → xs.map (fun n => UInt8.ofNat n.toNat) = ys.map (fun n => UInt8.ofNat n.toNat) → xs = ys := by
    intro xs
    induction xs with
    | nil => intro ys _ _ h; cases ys <;> simp_all
    | cons x xs ih =>
      intro ys hx hy h
      cases ys with
      | nil => simp at h
      | cons y ys =>
        simp only [List.map_cons, List.cons.injEq] at h
        obtain ⟨h1, h2⟩ := h
        have hx0 := hx x (by simp)
        have hy0 := hy y (by simp)
        have : x.toNat = y.toNat := by
          have := congrArg UInt8.toNat h1
          simp at this
          omega
        rw [ih ys (fun z hz => hx z (by simp [hz])) (fun z hz => hy z (by simp [hz])) h2, show x = y by omega]
  rw [Bool.eq_iff_iff]
  simp only [beq_iff_eq]
  constructor
  · intro h
    refine key xs ys hx hy ?_
    have h1 : (strOfNums xs).data.toList = (strOfNums ys).data.toList := by
      rw [← ByteArray.toList_eq, ← ByteArray.toList_eq]; exact h
    simpa [strOfNums_data] using h1
  · rintro rfl; rfl

theorem range_zs {zs : List Int} (h : ∀ n ∈ zs, (Lit.int .u8 n).wf = true) : ∀ x ∈ zs, 0 ≤ x ∧ x ≤ 255 := fun x hx => bounds_u8 (h x hx)

/-- What a []byte that came in reads as. -/
theorem BS.of_trod {P : Program} {w : World} {T E : TypeId} (hT : P.underlying T = some (.slice E)) (hE : P.underlying E = some (.int .u8)) (hc : P.cellsOf E = 1) {v : Value} {r : Reach} {base : Nat} (hok : Value.okWide P w r base T v) (h : Reads P w T v.cells.toList) :
    ∃ a len cap xs, v = .slice a len cap ∧ BS w a len cap xs := by
  obtain ⟨a, len, cap, rfl⟩ := okWide_slice hT hok
  obtain ⟨H, enc, fuel, x, hf⟩ := h
  rcases ChangeShapes.open_ints hT hE hc hf with ⟨hcs, _⟩ | ⟨ad, l, c, zs, hcs, _, hl, hm, hz, _, hcell, hwz⟩
  · simp [Value.cells] at hcs
    obtain ⟨rfl, rfl, rfl⟩ := hcs
    exact ⟨_, _, _, [], rfl, rfl, Nat.le_refl _, Nat.zero_le _, by simp, by omega⟩
  · simp [Value.cells] at hcs
    obtain ⟨rfl, rfl, rfl⟩ := hcs
    have hz' : zs.length = cap := by simpa using hz
    refine ⟨_, _, _, zs.take len, rfl, by simp; omega, hl, hm, fun x hx => range_zs hwz x (List.mem_of_mem_take hx), fun h0 => ?_⟩
    obtain ⟨b, off, spot⟩ := ad
    have hc0 := hcell 0 (by omega)
    have hspot : spot = none := by simpa [Addr.add] using World.cell?_spot hc0
    subst hspot
    have hadd : ∀ i, (⟨b, off, none⟩ : Addr).add i = ⟨b, off + i, none⟩ := fun i => by simp [Addr.add]
    refine ⟨b, off, rfl, ?_, fun i hi => ?_⟩
    · have := World.block_lt_of_cell? w _ hc0
      simpa [Addr.add] using this
    · have := hcell i (by omega)
      rw [hadd] at this
      rw [this]
      simp [List.getD, hi]
end Go.Proofs.Ytlcckgimagllaaa
