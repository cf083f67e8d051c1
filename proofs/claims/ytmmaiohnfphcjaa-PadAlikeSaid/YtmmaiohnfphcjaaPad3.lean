/- Pad, and PadAlike. -/
import Derived.Test.YtmmaiohnfphcjaaPad2
import Derived.Test.YtmmaiohnfphcjaaMem
import Derived.WalkSpells
import Derived.WalkLawsBesides
namespace Go.Proofs.Ytmmaiohnfphcjaa
open Go Go.ChangeShapes Go.WideShapes Go.ChangeAt Go.RowKit

/-- The length that a text is padded to. -/
def bkN (n : Nat) : Nat := (bk n).toNat
theorem bkN_eq {n : Nat} (h : n < 2048) : bk n = (bkN n : Int) ∧ n < bkN n ∧ bkN n ≤ 2048 := by
  have := bk_cases n (by omega) (by omega)
  unfold bkN
  omega
theorem be_ok {n : Nat} (h : n < 2048) : be n = 0 := by unfold be; rw [if_neg (by omega), if_pos (by omega)]

def padl (xs : List Int) : List Int := xs ++ 128 :: List.replicate (bkN xs.length - xs.length - 1) 0

def PadPost (xs : List Int) (w : World) (e : Ending) (w' : World) : Prop :=
  ∃ g, e = .returned (.tuple #[.slice (some ⟨g, 0, none⟩) (bkN xs.length) (bkN xs.length), .int .i64 0]) ∧ Below w.heap.size w w' ∧ w.heap.size ≤ g ∧
    w'.heap[g]? = some (.cells ((padl xs).map (Value.int .u8)).toArray 5 (0, 0))

theorem padl_cells {xs : List Int} (h : xs.length < 2048) :
    (splice (List.replicate (bkN xs.length) (Value.int .u8 0)) 0 (xs.map (Value.int .u8))).toArray.setIfInBounds xs.length (Value.int .u8 128) = ((padl xs).map (Value.int .u8)).toArray := by
  obtain ⟨_, h1, _⟩ := bkN_eq h
  have e : List.replicate (bkN xs.length - xs.length) (Value.int .u8 0) = Value.int .u8 0 :: List.replicate (bkN xs.length - xs.length - 1) (Value.int .u8 0) := by
    rw [← List.replicate_succ]; congr 1; omega
  simp [splice, padl, e]

theorem pad_at {xs : List Int} {B : Nat} (h : xs.length < B) : (splice (List.replicate B (Value.int .u8 0)) 0 (xs.map (Value.int .u8))).toArray[xs.length]? = some (Value.int .u8 0) := by
  simp [splice, List.getElem?_append]
  rw [List.getElem?_replicate, if_pos (by omega)]

set_option maxRecDepth 100000 in
set_option maxHeartbeats 1600000 in
theorem pad_ok (xs : List Int) (a : Option Addr) (len cap : Nat) (w : World) (h : BS w a len cap xs) (hl : len < 2048) :
    Calls Try.prog 18 #[.slice a len cap] w (PadPost xs w) := by
  have hlen := h.length
  subst hlen
  obtain ⟨hb, hb1, hb2⟩ := bkN_eq hl
  have he : (be ↑xs.length == 0) = true := by rw [be_ok hl]; rfl
  have he' : be ↑xs.length = 0 := be_ok hl
  obtain ⟨B, hB⟩ : ∃ B, B = bkN xs.length := ⟨_, rfl⟩
  rw [← hB] at hb hb1 hb2
  have HBq := Lib.hid hB
  clear hB
  have hmk : ∀ w, (Instr.makeSlice 30 (.int .i64 ↑B) (.int .i64 ↑B)).run Try.prog w = .ok (.slice (some ⟨w.heap.size, 0, none⟩) B B) (w.alloc (.cells (madeCells #[.int .u8 0] B) 5)) := fun w => by
    obtain ⟨i, h1, h2, h3, h4⟩ := info_parts (show (Try.prog.info? 5).map (fun i => (i.zero, i.size, i.bytes)) = some (some (.int .u8 0), 1, 1) by kernel_rfl)
    have := run_make (P := Try.prog) w 30 5 i (.int .u8 0) Try.underlying30 h1 h2 .i64 .i64 B B (by omega) (by omega) (by rw [h4]; omega) (by omega)
    simpa [h3, Value.cells] using this
  have hcur : ∀ O, (w.alloc (.cells (madeCells #[.int .u8 0] B) O)).heap[w.heap.size]? = some (.cells (List.replicate B (Value.int .u8 0)).toArray O (0, 0)) := fun O => by
    have e : madeCells #[.int .u8 0] B = (List.replicate B (Value.int .u8 0)).toArray := by
      apply Array.toList_inj.1; rw [toList_madeCells_one]
    rw [heap_alloc_new, e]
  have HC := Lib.hid hcur
  clear hcur
  have hsrc : 0 < (xs.map (Value.int .u8)).length → ∃ ad, a = some ad ∧ ∀ j v, (xs.map (Value.int .u8))[j]? = some v → (w.alloc (.cells (madeCells #[.int .u8 0] B) 5)).cell? (ad.add j) = some v := fun h0 => by
    obtain ⟨b, off, rfl, hlt, hc⟩ := h.cells (by simpa using h0)
    refine ⟨_, rfl, fun j v hj => ?_⟩
    have hjl : j < xs.length := by
      rcases Nat.lt_or_ge j xs.length with h' | h'
      · exact h'
      · simp [List.getElem?_eq_none h'] at hj
    have := hc j hjl
    have e : (⟨b, off, none⟩ : Addr).add j = ⟨b, off + j, none⟩ := by simp [Addr.add]
    rw [e, World.cell?_alloc_lt _ _ _ (by simpa using hlt), this]
    simp [List.getElem?_eq_getElem hjl] at hj
    simp [← hj, List.getD, hjl]
  have HS := Lib.hid hsrc
  clear hsrc
  have h1c : ∀ v ∈ xs.map (Value.int .u8), v.oneCell' = true := ints_oneCell _ _
  have H1 := Lib.hid h1c
  clear h1c
  have H := Lib.hid h
  clear h
  go_enter Try.func18, Try.ntmps18
  go_wp2_with (first | (go_at_call 13; refine (bucket_any _ _).mono ?_; rintro e w' ⟨rfl, rfl⟩) | ((refine wpList_copy_splice (by rfl) (.tmp 19) (.tmp 20) 30 30 (by rfl) 5 Try.underlying30 (by kernel_rfl) _ _ B B xs.length cap (by rfl) (by rfl) w.heap.size 0 (List.replicate B (.int .u8 0)) 5 (HC.out _) (xs.map (.int .u8)) (by rw [List.length_map]; exact (Nat.min_eq_left (by omega)).symm) (fun h0 => ⟨rfl, HS.out h0⟩) (by simp; omega) H1.out w.heap.size w ((Below.refl _ _).alloc (Nat.le_refl _) _) (Nat.le_refl _) ?_); intro w2 HG2 hB2; have hcl : w2.cell? ⟨w.heap.size, xs.length, none⟩ = some (.int .u8 0) := (by rw [cell_blk HG2.out]; exact pad_at hb1); have hfr : w2.frozen? ⟨w.heap.size, xs.length, none⟩ = false := free_blk HG2.out))
  go_ret2
  refine ⟨w.heap.size, ?_, ?_, Nat.le_refl _, ?_⟩
  · rw [← HBq.out]; rfl
  · exact hB2.setCell (by simp) _
  · have hg := set_blk (i := xs.length) (v := .int .u8 128) HG2.out
    rw [HBq.out] at hg
    rw [hg, padl_cells hl]

theorem padl_length {xs : List Int} (h : xs.length < 2048) : (padl xs).length = bkN xs.length := by
  obtain ⟨_, h1, _⟩ := bkN_eq h
  simp [padl]; omega
theorem padl_rng {xs : List Int} (h : ∀ x ∈ xs, 0 ≤ x ∧ x ≤ 255) : ∀ x ∈ padl xs, 0 ≤ x ∧ x ≤ 255 := by
  intro x hx
  simp only [padl, List.mem_append, List.mem_cons, List.mem_replicate] at hx
  rcases hx with hx | rfl | ⟨_, rfl⟩
  · exact h x hx
  · omega
  · omega

/-- What is padded reads as a byte slice. -/
theorem BS.of_pad {xs : List Int} {w : World} {g : Nat} {t : TypeId} {fr : Nat × Nat} (hr : ∀ x ∈ xs, 0 ≤ x ∧ x ≤ 255) (hl : xs.length < 2048) (hg : w.heap[g]? = some (.cells ((padl xs).map (Value.int .u8)).toArray t fr)) :
    BS w (some ⟨g, 0, none⟩) (bkN xs.length) (bkN xs.length) (padl xs) :=
  ⟨padl_length hl, Nat.le_refl _, by have := (bkN_eq hl).2.2; unfold maxLen; omega, padl_rng hr, fun _ => ⟨g, 0, rfl, lt_of_blk hg, fun i hi => by
    have hi' : i < (padl xs).length := by rw [padl_length hl]; exact hi
    rw [cell_blk hg]
    simp [List.getD, hi']⟩⟩

theorem replicate_tail {a b : List Int} {m n : Nat} (h : a ++ 128 :: List.replicate m 0 = b ++ 128 :: List.replicate n 0) : a = b := by
  have h1 := congrArg List.reverse h
  simp only [List.reverse_append, List.reverse_cons, List.reverse_replicate, List.append_assoc] at h1
  have key : ∀ (m n : Nat) (x y : List Int), List.replicate m (0 : Int) ++ (128 :: x) = List.replicate n 0 ++ (128 :: y) → x = y := by
    intro m
    induction m with
    | zero =>
      intro n x y h
      cases n with
      | zero => simpa using h
      | succ n => simp [List.replicate_succ] at h
    | succ m ih =>
      intro n x y h
      cases n with
      | zero => simp [List.replicate_succ] at h
      | succ n => simp only [List.replicate_succ, List.cons_append, List.cons.injEq, true_and] at h; exact ih n x y h
  have h2 := key m n a.reverse b.reverse (by simpa using h1)
  exact List.reverse_inj.1 h2

theorem padl_inj {xs ys : List Int} (h : padl xs = padl ys) : xs = ys := replicate_tail h

theorem padl_beq (xs ys : List Int) : (padl xs == padl ys) = (xs == ys) := by
  rw [Bool.eq_iff_iff]; simp only [beq_iff_eq]
  exact ⟨padl_inj, fun h => by rw [h]⟩

theorem isB_bk {n : Nat} (h : n < 2048) : isB (bkN n) = true := by
  obtain ⟨h0, _, _⟩ := bkN_eq h
  rw [← h0]
  exact (grows_facts n n (by omega) (by omega) (by omega)).2.2.2.2.2.1

theorem bk_beq {n m : Nat} (h : n < 2048) (h' : m < 2048) : (bk n == bk m) = ((bkN n : Int) == (bkN m : Int)) := by
  rw [(bkN_eq h).1, (bkN_eq h').1]
end Go.Proofs.Ytmmaiohnfphcjaa
