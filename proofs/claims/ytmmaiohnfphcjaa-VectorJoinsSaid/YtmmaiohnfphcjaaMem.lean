/- Byte slices as lists of numbers; blocks known whole. No program in sight. -/
import Derived.Test.YtmmaiohnfphcjaaRead
import Derived.Laws.BytesArg
import Derived.Laws.CopyOwn
import Derived.Laws.MakeOwn
import Derived.OwnWalk
import Derived.Shelf.Bytes.SlSmallAll
import Derived.WalkSmall
namespace Go.Proofs.Ytmmaiohnfphcjaa
open Go Go.RowKit Go.ChangeShapes Go.WideShapes Go.ChangeAt

/-! ### blocks known whole -/
theorem cell_blk {w : World} {g i : Nat} {cs : Array Value} {t : TypeId} {fr : Nat × Nat} (h : w.heap[g]? = some (.cells cs t fr)) : w.cell? ⟨g, i, none⟩ = cs[i]? := by
  simp [World.cell?, h]
theorem free_blk {w : World} {g i : Nat} {cs : Array Value} {t : TypeId} (h : w.heap[g]? = some (.cells cs t (0, 0))) : w.frozen? ⟨g, i, none⟩ = false := by
  simp [World.frozen?, h]
theorem set_blk {w : World} {g i : Nat} {v : Value} {cs : Array Value} {t : TypeId} {fr : Nat × Nat} (h : w.heap[g]? = some (.cells cs t fr)) : (w.setCell ⟨g, i, none⟩ v).heap[g]? = some (.cells (cs.setIfInBounds i v) t fr) := by
  have hlt : g < w.heap.size := by
    rcases Nat.lt_or_ge g w.heap.size with h' | h'
    · exact h'
    · simp [Array.getElem?_eq_none h'] at h
  have e : w.heap[g] = .cells cs t fr := by rw [Array.getElem?_eq_getElem hlt] at h; exact Option.some.inj h
  rw [Array.getElem?_eq_getElem (by simp [World.setCell, hlt])]
  simp [World.setCell, Array.getElem_modify, e]
theorem lt_of_blk {w : World} {g : Nat} {o : Obj} (h : w.heap[g]? = some o) : g < w.heap.size := by
  rcases Nat.lt_or_ge g w.heap.size with h' | h'
  · exact h'
  · simp [Array.getElem?_eq_none h'] at h

/-! ### byte slices -/
structure BS (w : World) (a : Option Addr) (len cap : Nat) (xs : List Int) : Prop where
  length : xs.length = len
  le : len ≤ cap
  cap_le : cap ≤ maxLen
  rng : ∀ x ∈ xs, 0 ≤ x ∧ x ≤ 255
  cells : 0 < len → ∃ b off, a = some ⟨b, off, none⟩ ∧ b < w.heap.size ∧ ∀ i, i < len → w.cell? ⟨b, off + i, none⟩ = some (.int .u8 (xs.getD i 0))

theorem BS.below {w w' : World} {a : Option Addr} {len cap : Nat} {xs : List Int} (h : BS w a len cap xs) {B : Nat} (hb : Below B w w') (hB : w.heap.size ≤ B) : BS w' a len cap xs :=
  ⟨h.length, h.le, h.cap_le, h.rng, fun h0 => by
    obtain ⟨b, off, rfl, hlt, hc⟩ := h.cells h0
    refine ⟨b, off, rfl, Nat.lt_of_lt_of_le hlt hb.size, fun i hi => ?_⟩
    rw [hb.cell (show (⟨b, off + i, none⟩ : Addr).block < B by simp; omega)]
    exact hc i hi⟩

theorem BS.conv {P : Program} {w : World} {a : Option Addr} {len cap : Nat} {xs : List Int} (h : BS w a len cap xs) {src e dst : TypeId} (hs : P.underlying src = some (.slice e)) (he : P.underlying e = some (.int .u8)) (hd : P.underlying dst = some .string) :
    (convert src dst (.slice a len cap)).run P w = .ok (.string (strOfNums xs)) w := by
  rcases Nat.eq_zero_or_pos len with h0 | h0
  · have hx : xs = [] := List.eq_nil_of_length_eq_zero (by rw [h.length, h0])
    subst h0
    rw [hx]
    exact run_convert_bytes_zero w src e hs he a cap dst hd
  · obtain ⟨b, off, rfl, _, hc⟩ := h.cells h0
    exact run_convert_bytes_arg w src e hs he b off len cap xs h.length hc dst hd

/-- Two strings of bytes are equal as their numbers are. -/
theorem strOfNums_beq {xs ys : List Int} (hx : ∀ x ∈ xs, 0 ≤ x ∧ x ≤ 255) (hy : ∀ x ∈ ys, 0 ≤ x ∧ x ≤ 255) : ((strOfNums xs).toList == (strOfNums ys).toList) = (xs == ys) := by
  have key : ∀ (xs ys : List Int), (∀ x ∈ xs, 0 ≤ x ∧ x ≤ 255) → (∀ x ∈ ys, 0 ≤ x ∧ x ≤ 255) → xs.map (fun n => UInt8.ofNat n.toNat) = ys.map (fun n => UInt8.ofNat n.toNat) → xs = ys := by
    intro xs
    induction xs with
    | nil => intro ys _ _ h; cases ys <;> simp_all
    | cons x xs ih =>
      intro ys hx hy h
      cases ys with
      | nil => simp at h
      | cons y ys =>
        simp only [List.map_cons, List.cons.injEq] at h
        obtain ⟨h1, h2⟩ := h
        have hx0 := hx x (by simp)
        have hy0 := hy y (by simp)
        have : x.toNat = y.toNat := by
          have := congrArg UInt8.toNat h1
          simp at this
          omega
        rw [ih ys (fun z hz => hx z (by simp [hz])) (fun z hz => hy z (by simp [hz])) h2, show x = y by omega]
  rw [Bool.eq_iff_iff]
  simp only [beq_iff_eq]
  constructor
  · intro h
    refine key xs ys hx hy ?_
    have h1 : (strOfNums xs).data.toList = (strOfNums ys).data.toList := by
      rw [← ByteArray.toList_eq, ← ByteArray.toList_eq]; exact h
    simpa [strOfNums_data] using h1
  · rintro rfl; rfl

theorem range_zs {zs : List Int} (h : ∀ n ∈ zs, (Lit.int .u8 n).wf = true) : ∀ x ∈ zs, 0 ≤ x ∧ x ≤ 255 := fun x hx => bounds_u8 (h x hx)

/-- What a []byte that came in reads as. -/
theorem BS.of_trod {P : Program} {w : World} {T E : TypeId} (hT : P.underlying T = some (.slice E)) (hE : P.underlying E = some (.int .u8)) (hc : P.cellsOf E = 1) {v : Value} {r : Reach} {base : Nat} (hok : Value.okWide P w r base T v) (h : Reads P w T v.cells.toList) :
    ∃ a len cap xs, v = .slice a len cap ∧ BS w a len cap xs := by
  obtain ⟨a, len, cap, rfl⟩ := okWide_slice hT hok
  obtain ⟨H, enc, fuel, x, hf⟩ := h
  rcases ChangeShapes.open_ints hT hE hc hf with ⟨hcs, _⟩ | ⟨ad, l, c, zs, hcs, _, hl, hm, hz, _, hcell, hwz⟩
  · simp [Value.cells] at hcs
    obtain ⟨rfl, rfl, rfl⟩ := hcs
    exact ⟨_, _, _, [], rfl, rfl, Nat.le_refl _, Nat.zero_le _, by simp, by omega⟩
  · simp [Value.cells] at hcs
    obtain ⟨rfl, rfl, rfl⟩ := hcs
    have hz' : zs.length = cap := by simpa using hz
    refine ⟨_, _, _, zs.take len, rfl, by simp; omega, hl, hm, fun x hx => range_zs hwz x (List.mem_of_mem_take hx), fun h0 => ?_⟩
    obtain ⟨b, off, spot⟩ := ad
    have hc0 := hcell 0 (by omega)
    have hspot : spot = none := by simpa [Addr.add] using World.cell?_spot hc0
    subst hspot
    have hadd : ∀ i, (⟨b, off, none⟩ : Addr).add i = ⟨b, off + i, none⟩ := fun i => by simp [Addr.add]
    refine ⟨b, off, rfl, ?_, fun i hi => ?_⟩
    · have := World.block_lt_of_cell? w _ hc0
      simpa [Addr.add] using this
    · have := hcell i (by omega)
      rw [hadd] at this
      rw [this]
      simp [List.getD, hi]
end Go.Proofs.Ytmmaiohnfphcjaa
