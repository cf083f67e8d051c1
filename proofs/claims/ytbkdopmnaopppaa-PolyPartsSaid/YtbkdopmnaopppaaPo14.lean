/- Poly: the reference's numbers: mul, less. -/
import Derived.Test.YtbkdopmnaopppaaPo13
namespace Go.Proofs.Ytbkdopmnaopppaa
open Go Go.RowKit
set_option linter.unusedVariables false
set_option linter.unusedSimpArgs false
section
variable {P : Program} {n m d : Nat} {T : List (Nat × Value)} {X : List Nat} {w0 : World} {L L' : List Chunk} {K : Act → World → Prop} {Q : Exit → Act → World → Prop}
  {ty t : TypeId} {pos : String} {af : Array Edge} {gu : Option (Nat × Bool)} {x y : Operand}
/-- A store into a list of our own. -/
theorem e_storeM {α : Type} (enc : α → Value) (zs : List α) (z : α) {g off cap : Nat} {tt : TypeId} (hx : ev T x = some (.pointer (some ⟨g, off, none⟩))) (hy : ev T y = some (enc z)) [hs : SzT P t 1] (ho : (enc z).oneCell' = true) (hp : Pl (.sl (some ⟨g, 0, none⟩) cap tt 1 (zs.map enc)) (.sl (some ⟨g, 0, none⟩) cap tt 1 ((zs.set off z).map enc)) L L') (hoff : off < zs.length)
    (hg : g ∈ X ∨ w0.heap.size ≤ g) (h : ∀ a w, SS n T X w0 m L' a w → K a w) : ∀ a w, SS n T X w0 m L a w → OW P ⟨none, .store t x y, ty, pos, af, gu⟩ K Q a w := by
  rw [List.map_set] at hp
  exact e_store_sl hx hy ho hp (by simpa using hoff) hg h
end
theorem getD_set {zs : List Nat} {j v : Nat} (i : Nat) (hj : j < zs.length) : (zs.set j v).getD i 0 = if j = i then v else zs.getD i 0 := by
  rw [List.getD_eq_getElem?_getD, List.getElem?_set, List.getD_eq_getElem?_getD]
  by_cases e : j = i
  · subst e; simp [hj]
  · simp [e]
theorem vl_split (zs : List Nat) (i : Nat) : vl zs = vl (zs.take i) + 256 ^ (zs.take i).length * vl (zs.drop i) := by
  conv => lhs; rw [← List.take_append_drop i zs]
  exact vl_append _ _
theorem vl_add {zs : List Nat} {i : Nat} (hi : i < zs.length) (x : Nat) : vl (zs.set i (zs.getD i 0 + x)) = vl zs + 256 ^ i * x := by
  have := vl_set zs i (zs.getD i 0 + x) hi
  rw [Nat.mul_add] at this
  omega
theorem vl_ge (zs : List Nat) (i : Nat) (hi : i < zs.length) : 256 ^ i * zs.getD i 0 ≤ vl zs := by
  have h1 := vl_split zs (i + 1)
  rw [vl_take_succ zs i hi] at h1
  omega
theorem dig_le {zs : List Nat} {B : Nat} (h : ∀ d ∈ zs, d ≤ B) (i : Nat) : zs.getD i 0 ≤ B := by
  rw [List.getD_eq_getElem?_getD]
  cases hi : zs[i]? with
  | none => simp
  | some x => exact h x (List.mem_of_getElem? hi)
theorem all_of_getD {zs : List Nat} {p : Nat → Prop} (h : ∀ i, i < zs.length → p (zs.getD i 0)) : ∀ d ∈ zs, p d := by
  intro d hd
  obtain ⟨i, hi, rfl⟩ := List.getElem_of_mem hd
  have := h i hi
  rwa [List.getD_eq_getElem?_getD, List.getElem?_eq_getElem hi] at this
structure MulI (xs ys : List Nat) (i : Nat) (z : Nat × List Nat) : Prop where
  j : z.1 ≤ ys.length
  ln : z.2.length = (xs.length + ys.length + 1)
  bd : ∀ d ∈ z.2, d ≤ 65025 * (i * ys.length + z.1)
  val : vl z.2 = vl (xs.take i) * vl ys + 256 ^ i * (xs.getD i 0 * vl (ys.take z.1))
theorem mulStep {xs ys zs : List Nat} {i j p : Nat} (hx : ∀ x ∈ xs, x < 256) (hy : ∀ x ∈ ys, x < 256) (hi : i < xs.length) (hj : j < ys.length) (h : MulI xs ys i (j, zs)) (hp : p = xs.getD i 0 * ys.getD j 0) : MulI xs ys i (j + 1, zs.set (i + j) (zs.getD (i + j) 0 + p)) := by
  obtain ⟨h1, h2, h3, h4⟩ := h
  dsimp only at h1 h2 h3 h4
  have hpb : p ≤ 65025 := by
    rw [hp]
    exact Nat.mul_le_mul (Nat.le_of_lt_succ (getD_lt hx (by omega) i)) (Nat.le_of_lt_succ (getD_lt hy (by omega) j))
  refine ⟨hj, by simp [h2], all_of_getD fun k hk => ?_, ?_⟩
  · rw [List.length_set] at hk
    rw [getD_set k (by omega)]
    have b1 := dig_le h3 k
    have b2 := dig_le h3 (i + j)
    dsimp only
    split <;> omega
  · dsimp only
    rw [vl_add (by omega), h4, vl_take, Nat.mul_add, Nat.mul_add, ← Nat.add_assoc, hp]
    congr 1
    rw [Nat.pow_add]
    simp only [Nat.mul_assoc, Nat.mul_left_comm, Nat.mul_comm]
structure MulO (xs ys : List Nat) (z : Nat × List Nat) : Prop where
  i : z.1 ≤ xs.length
  ln : z.2.length = (xs.length + ys.length + 1)
  bd : ∀ d ∈ z.2, d ≤ 65025 * (z.1 * ys.length)
  val : vl z.2 = vl (xs.take z.1) * vl ys
structure MulR (xs ys : List Nat) (z : Nat × List Nat) : Prop where
  i : z.1 < (xs.length + ys.length + 1)
  ln : z.2.length = (xs.length + ys.length + 1)
  lo : ∀ j, j < z.1 → z.2.getD j 0 < 256
  at_ : z.2.getD z.1 0 ≤ 1300500000
  hi : ∀ j, z.1 < j → z.2.getD j 0 ≤ 650250000
  val : vl z.2 = vl xs * vl ys
theorem redStep {xs ys zs : List Nat} {i : Nat} (h : MulR xs ys (i, zs)) (hi : i + 1 < (xs.length + ys.length + 1)) : MulR xs ys (i + 1, (zs.set (i + 1) (zs.getD (i + 1) 0 + zs.getD i 0 / 256)).set i (zs.getD i 0 % 256)) := by
  obtain ⟨h1, h2, h3, h4, h5, h6⟩ := h
  dsimp only at h1 h2 h3 h4 h5 h6
  have hl : (zs.set (i + 1) (zs.getD (i + 1) 0 + zs.getD i 0 / 256)).length = zs.length := List.length_set
  refine ⟨by dsimp only; omega, by simp [h2], fun j hj => ?_, ?_, fun j hj => ?_, ?_⟩
  · dsimp only at hj ⊢
    rw [getD_set j (by omega), getD_set j (by omega)]
    by_cases e : i = j
    · rw [if_pos e]; omega
    · rw [if_neg e, if_neg (by omega)]; exact h3 j (by omega)
  · dsimp only
    rw [getD_set _ (by omega), getD_set _ (by omega), if_neg (by omega), if_pos rfl]
    have := h5 (i + 1) (by omega)
    omega
  · dsimp only at hj ⊢
    rw [getD_set j (by omega), getD_set j (by omega), if_neg (by omega), if_neg (by omega)]
    exact h5 j (by omega)
  · dsimp only
    have e1 := vl_add (zs := zs) (i := i + 1) (by omega) (zs.getD i 0 / 256)
    have e2 := vl_set (zs.set (i + 1) (zs.getD (i + 1) 0 + zs.getD i 0 / 256)) i (zs.getD i 0 % 256) (by omega)
    rw [getD_set i (by omega), if_neg (by omega), e1] at e2
    have e3 : 256 ^ i * zs.getD i 0 = 256 ^ (i + 1) * (zs.getD i 0 / 256) + 256 ^ i * (zs.getD i 0 % 256) := by
      rw [Nat.pow_succ, Nat.mul_assoc, ← Nat.mul_add]
      congr 1
      omega
    omega
theorem redEnd {xs ys zs : List Nat} {i : Nat} (hx : ∀ x ∈ xs, x < 256) (hy : ∀ x ∈ ys, x < 256) (h : MulR xs ys (i, zs)) (hi : (xs.length + ys.length + 1) ≤ i + 1) : (∀ d ∈ zs, d < 256) ∧ vl zs = vl xs * vl ys ∧ zs.length = (xs.length + ys.length + 1) := by
  obtain ⟨h1, h2, h3, h4, h5, h6⟩ := h
  dsimp only at h1 h2 h3 h4 h5 h6
  refine ⟨all_of_getD fun j hj => ?_, h6, h2⟩
  by_cases e : j < i
  · exact h3 j e
  · have hj2 : j = xs.length + ys.length := by omega
    subst hj2
    have h7 := vl_ge zs _ hj
    have h8 : vl zs < 256 ^ (xs.length + ys.length) := by
      rw [h6, Nat.pow_add]
      exact Nat.mul_lt_mul'' (vl_lt xs hx) (vl_lt ys hy)
    rcases Nat.eq_zero_or_pos (zs.getD (xs.length + ys.length) 0) with h9 | h9
    · omega
    · have := Nat.mul_le_mul_left (256 ^ (xs.length + ys.length)) h9
      omega
set_option maxRecDepth 100000 in
set_option maxHeartbeats 4000000 in
theorem rmul_c (a1 a2 : Option Addr) (cap1 cap2 : Nat) (xs ys : List Nat) (hx : ∀ x ∈ xs, x < 256) (hy : ∀ x ∈ ys, x < 256) (hl1 : xs.length ≤ 100) (hl2 : ys.length ≤ 100) (w : World) (hs1 : SlE IV w a1 xs) (hs2 : SlE IV w a2 ys) :
    CA Try.prog 37 [.slice a1 xs.length cap1, .slice a2 ys.length cap2] w (RLe IV 3 (fun zs => (∀ d ∈ zs, d < 256) ∧ vl zs = vl xs * vl ys ∧ zs.length = (xs.length + ys.length + 1)) w) := by
  refine enter (L := []) (X := []) Try.func37 rfl Try.ntmps37 rfl rfl (Has.nil _) ?_
  repeat (first | refine c_seq ?_ | (refine c_region (id := 0) ?_; refine st_q (by exact q_assign rfl) rfl ?_; refine l_nil ?_) | (refine c_region (id := 1) ?_; refine st_q (by exact q_move rfl) rfl ?_; refine st_q (by (first | exact q_len_sl rfl | exact q_len_str rfl)) rfl ?_; refine st_q (by exact q_move rfl) rfl ?_; refine st_q (by (first | exact q_len_sl rfl | exact q_len_str rfl)) rfl ?_; refine st_q (by exact q_add64 rfl rfl ⟨by omega, by omega⟩ (by first | (simp only [Nat.zero_add, Nat.add_zero, Nat.mul_one, Nat.one_mul, Int.toNat_natCast, Int.reduceToNat, Nat.reduceMul, Nat.reduceAdd, Nat.reduceSub, Int.reduceAdd, Int.reduceSub, Int.reduceMul, Nat.sub_zero, Int.toNat_zero, Int.zero_add, Int.add_zero, Int.sub_zero, Int.mul_one, Int.one_mul]; try exact rfl) | exact rfl)) rfl ?_; refine st_q (by exact Qt.cast (v' := .int .i64 ((xs.length + ys.length + 1 : Nat) : Int)) (congrArg (Value.int .i64) (by omega)) (q_add64 rfl rfl ⟨by omega, by omega⟩ rfl)) rfl ?_; refine st_e ?_; (first | refine e_make1n rfl rfl rfl (by omega) (by omega) (by omega) ?_ | refine e_make1 rfl rfl rfl (by omega) (by omega) (by omega) (by omega) ?_); refine st_q (by exact q_assign rfl) rfl ?_; refine l_nil ?_) | (refine c_region (id := 2) ?_; refine st_q (by exact q_assign rfl) rfl ?_; refine l_nil ?_) | refine n_then ?_ | refine c_block ?_ | refine c_skip ?_ | refine n_block ?_ | refine c_exit ?_ | refine n_then_exit ?_ | refine n_block_eq ?_ | refine n_block_ne rfl ?_ | refine c_ret ?_ | refine n_then_ret ?_ | refine n_block_ret ?_ | refine c_cond_t rfl ?_ | refine c_cond_f rfl ?_ | refine r_succ ?_ )
  refine chg (L' := [.sl (some ⟨w.heap.size, 0, none⟩) (xs.length + ys.length + 1) 3 1 ((List.replicate (xs.length + ys.length + 1) 0).map IV)]) (by rw [List.map_replicate]; rfl) ?_
  refine c_loop (γ := Nat × List Nat) (fun z => [(6, .int .i64 z.1), (5, .slice (some ⟨w.heap.size, 0, none⟩) (xs.length + ys.length + 1) (xs.length + ys.length + 1)), (0, .slice a1 xs.length cap1), (1, .slice a2 ys.length cap2)]) (fun _ => w.heap.size + 1) (fun z => [.sl (some ⟨w.heap.size, 0, none⟩) (xs.length + ys.length + 1) 3 1 (z.2.map IV)]) (MulO xs ys) (fun z => xs.length - z.1) ⟨0, List.replicate (xs.length + ys.length + 1) 0⟩ ⟨by simp, by simp, fun d hd => by simp at hd; omega, by simp [vl, vl_zeros]⟩ ⟨rfl, rfl, rfl, rfl, trivial⟩ rfl (by (repeat (first | exact List.Sublist.slnil | apply List.Sublist.cons_cons | apply List.Sublist.cons))) ?_
  rintro ⟨i, zs⟩ ⟨hi, hzl, hzb, hV⟩
  dsimp only at hi hzl hzb hV ⊢
  repeat (first | refine c_seq ?_ | (refine c_region (id := 3) ?_; refine st_q (by exact q_move rfl) rfl ?_; refine st_q (by exact q_move rfl) rfl ?_; refine st_q (by (first | exact q_len_sl rfl | exact q_len_str rfl)) rfl ?_; refine st_q (by exact q_lss rfl rfl) rfl ?_; refine l_nil ?_) | refine n_then ?_ | refine c_block ?_ | refine c_skip ?_ | refine n_block ?_ | refine c_exit ?_ | refine n_then_exit ?_ | refine n_block_eq ?_ | refine n_block_ne rfl ?_ | refine c_ret ?_ | refine n_then_ret ?_ | refine n_block_ret ?_ | refine c_cond_t rfl ?_ | refine c_cond_f rfl ?_ | refine r_succ ?_ )
  refine c_cond_dec rfl (fun h => ?_) (fun h => ?_)
  · have h1 : i < xs.length := by omega
    repeat (first | refine c_seq ?_ | (refine c_region (id := 5) ?_; refine st_q (by exact q_assign rfl) rfl ?_; refine l_nil ?_) | refine n_then ?_ | refine c_block ?_ | refine c_skip ?_ | refine n_block ?_ | refine c_exit ?_ | refine n_then_exit ?_ | refine n_block_eq ?_ | refine n_block_ne rfl ?_ | refine c_ret ?_ | refine n_then_ret ?_ | refine n_block_ret ?_ | refine c_cond_t rfl ?_ | refine c_cond_f rfl ?_ | refine r_succ ?_ )
    refine c_loop (γ := Nat × List Nat) (fun z => [(7, .int .i64 z.1), (6, .int .i64 i), (5, .slice (some ⟨w.heap.size, 0, none⟩) (xs.length + ys.length + 1) (xs.length + ys.length + 1)), (0, .slice a1 xs.length cap1), (1, .slice a2 ys.length cap2)]) (fun _ => w.heap.size + 1) (fun z => [.sl (some ⟨w.heap.size, 0, none⟩) (xs.length + ys.length + 1) 3 1 (z.2.map IV)]) (MulI xs ys i) (fun z => ys.length - z.1) ⟨0, zs⟩ ⟨by simp, hzl, hzb, by simp [vl, hV]⟩ ⟨rfl, rfl, rfl, rfl, rfl, trivial⟩ rfl (by (repeat (first | exact List.Sublist.slnil | apply List.Sublist.cons_cons | apply List.Sublist.cons))) ?_
    rintro ⟨j, zs⟩ hI
    have hj := hI.j
    have hzl := hI.ln
    have hzb := hI.bd
    dsimp only at hj hzl hzb ⊢
    repeat (first | refine c_seq ?_ | (refine c_region (id := 6) ?_; refine st_q (by exact q_move rfl) rfl ?_; refine st_q (by exact q_move rfl) rfl ?_; refine st_q (by (first | exact q_len_sl rfl | exact q_len_str rfl)) rfl ?_; refine st_q (by exact q_lss rfl rfl) rfl ?_; refine l_nil ?_) | refine n_then ?_ | refine c_block ?_ | refine c_skip ?_ | refine n_block ?_ | refine c_exit ?_ | refine n_then_exit ?_ | refine n_block_eq ?_ | refine n_block_ne rfl ?_ | refine c_ret ?_ | refine n_then_ret ?_ | refine n_block_ret ?_ | refine c_cond_t rfl ?_ | refine c_cond_f rfl ?_ | refine r_succ ?_ )
    refine c_cond_dec rfl (fun h => ?_) (fun h => ?_)
    · have h2 : j < ys.length := by omega
      obtain ⟨g1, o1, rfl, hO1⟩ := hs1.get h1
      obtain ⟨g2, o2, rfl, hO2⟩ := hs2.get h2
      have hz1 := nthI h1
      have hz2 := nthI h2
      have hz3 := nthI (xs := zs) (i := i + j) (by omega)
      obtain ⟨p, hp⟩ : ∃ p, p = xs.getD i 0 * ys.getD j 0 := ⟨_, rfl⟩
      have hpc : ((xs.getD i 0 : Nat) : Int) * ((ys.getD j 0 : Nat) : Int) = (p : Int) := by rw [hp, Int.natCast_mul]
      have hp9 : p ≤ 65025 := by
        rw [hp]
        exact Nat.mul_le_mul (Nat.le_of_lt_succ (getD_lt hx (by omega) i)) (Nat.le_of_lt_succ (getD_lt hy (by omega) j))
      have hpb : -9223372036854775808 ≤ ((xs.getD i 0 : Nat) : Int) * ((ys.getD j 0 : Nat) : Int) ∧ ((xs.getD i 0 : Nat) : Int) * ((ys.getD j 0 : Nat) : Int) ≤ 9223372036854775807 := by rw [hpc]; omega
      have hzb9 : zs.getD (i + j) 0 ≤ 700000000 := by
        have b1 := dig_le hzb (i + j)
        have b2 : i * ys.length ≤ 100 * 100 := Nat.mul_le_mul (by omega) hl2
        omega
      repeat (first | refine c_seq ?_ | (refine c_region (id := 7) ?_; refine st_q (by exact q_move rfl) rfl ?_; refine st_q (by exact q_add64 rfl rfl ⟨by omega, by omega⟩ (by first | (simp only [Nat.zero_add, Nat.add_zero, Nat.mul_one, Nat.one_mul, Int.toNat_natCast, Int.reduceToNat, Nat.reduceMul, Nat.reduceAdd, Nat.reduceSub, Int.reduceAdd, Int.reduceSub, Int.reduceMul, Nat.sub_zero, Int.toNat_zero, Int.zero_add, Int.add_zero, Int.sub_zero, Int.mul_one, Int.one_mul]; try exact rfl) | exact rfl)) rfl ?_; refine st_q (by exact q_assign rfl) rfl ?_; refine l_nil ?_) | (refine x_region (id := 8) (some 17) [(0, .n), (1, .n), (2, .n), (3, .n), (4, .n), (5, .q), (6, .n), (7, .n), (8, .n), (9, .q), (10, .n), (11, .n), (12, .n), (13, .q), (14, .n), (15, .n), (16, .n), (17, .b)] _ mixed (by kernel_rfl) (List.Sublist.refl _) ?_; refine x_n rfl (by exact q_move rfl) rfl ?_; refine x_n rfl (by exact q_move rfl) rfl ?_; refine x_n rfl (by exact q_move rfl) rfl ?_; refine x_n rfl (by exact q_add64 rfl rfl ⟨by omega, by omega⟩ (by first | (simp only [Nat.zero_add, Nat.add_zero, Nat.mul_one, Nat.one_mul, Int.toNat_natCast, Int.reduceToNat, Nat.reduceMul, Nat.reduceAdd, Nat.reduceSub, Int.reduceAdd, Int.reduceSub, Int.reduceMul, Nat.sub_zero, Int.toNat_zero, Int.zero_add, Int.add_zero, Int.sub_zero, Int.mul_one, Int.one_mul]; try exact rfl) | exact rfl)) rfl ?_; refine x_n rfl (by exact q_indexAddr_sl (o' := i + j) rfl rfl (by omega) (by omega) (by omega)) rfl ?_; refine x_q rfl (by exact q_load rfl (by (first | exact Rd.blkn (by (repeat (first | exact List.Mem.head _ | apply List.Mem.tail))) (by first | rfl | assumption) | exact Rd.sln (by (repeat (first | exact List.Mem.head _ | apply List.Mem.tail))) (by first | rfl | assumption) | exact Rd.oldn (by assumption) (by first | rfl | assumption) (by simp) | exact Rd.old0 (by assumption) (by simp)))) rfl ?_; refine x_n rfl (by exact q_move rfl) rfl ?_; refine x_n rfl (by exact q_move rfl) rfl ?_; refine x_n rfl (by exact q_indexAddr_sl (o' := o1 + i) rfl rfl (by omega) (by omega) (by omega)) rfl ?_; refine x_q rfl (by exact q_load rfl (by (first | exact Rd.blkn (by (repeat (first | exact List.Mem.head _ | apply List.Mem.tail))) (by first | rfl | assumption) | exact Rd.sln (by (repeat (first | exact List.Mem.head _ | apply List.Mem.tail))) (by first | rfl | assumption) | exact Rd.oldn (by assumption) (by first | rfl | assumption) (by simp) | exact Rd.old0 (by assumption) (by simp)))) rfl ?_; refine x_n rfl (by exact q_move rfl) rfl ?_; refine x_n rfl (by exact q_move rfl) rfl ?_; refine x_n rfl (by exact q_indexAddr_sl (o' := o2 + j) rfl rfl (by omega) (by omega) (by omega)) rfl ?_; refine x_q rfl (by exact q_load rfl (by (first | exact Rd.blkn (by (repeat (first | exact List.Mem.head _ | apply List.Mem.tail))) (by first | rfl | assumption) | exact Rd.sln (by (repeat (first | exact List.Mem.head _ | apply List.Mem.tail))) (by first | rfl | assumption) | exact Rd.oldn (by assumption) (by first | rfl | assumption) (by simp) | exact Rd.old0 (by assumption) (by simp)))) rfl ?_; refine x_n rfl (by exact Qt.cast (v' := .int .i64 ((p : Nat) : Int)) (congrArg (Value.int .i64) (by rw [hp, Int.natCast_mul])) (q_mul64 rfl rfl hpb rfl)) rfl ?_; refine x_n rfl (by exact Qt.cast (v' := .int .i64 ((zs.getD (i + j) 0 + p : Nat) : Int)) (congrArg (Value.int .i64) (by omega)) (q_add64 rfl rfl ⟨by omega, by omega⟩ rfl)) rfl ?_; refine x_n rfl (by exact q_indexAddr_sl (o' := i + j) rfl rfl (by omega) (by omega) (by omega)) rfl ?_; refine x_b rfl ?_; refine e_storeM IV zs (zs.getD (i + j) 0 + p) rfl rfl rfl (by (repeat (first | exact Pl.here | apply Pl.there))) (by omega) (by first | (left; simp; done) | (right; omega)) ?_; refine x_k (List.nil_sublist _) ?_; refine x_nil ?_) | refine n_then ?_ | refine c_block ?_ | refine c_skip ?_ | refine n_block ?_ | refine c_exit ?_ | refine n_then_exit ?_ | refine n_block_eq ?_ | refine n_block_ne rfl ?_ | refine c_ret ?_ | refine n_then_ret ?_ | refine n_block_ret ?_ | refine c_cond_t rfl ?_ | refine c_cond_f rfl ?_ | refine r_succ ?_ )
      refine c_round ⟨j + 1, zs.set (i + j) (zs.getD (i + j) 0 + p)⟩ (mulStep hx hy h1 h2 hI hp) (by dsimp only; omega) ⟨rfl, rfl, rfl, rfl, rfl, trivial⟩ (by rfl) (by (repeat (first | exact List.Sublist.slnil | apply List.Sublist.cons_cons | apply List.Sublist.cons)))
    · obtain rfl : j = ys.length := by omega
      repeat (first | refine c_seq ?_ | (refine c_region (id := 4) ?_; refine st_q (by exact q_move rfl) rfl ?_; refine st_q (by exact q_add64 rfl rfl ⟨by omega, by omega⟩ (by first | (simp only [Nat.zero_add, Nat.add_zero, Nat.mul_one, Nat.one_mul, Int.toNat_natCast, Int.reduceToNat, Nat.reduceMul, Nat.reduceAdd, Nat.reduceSub, Int.reduceAdd, Int.reduceSub, Int.reduceMul, Nat.sub_zero, Int.toNat_zero, Int.zero_add, Int.add_zero, Int.sub_zero, Int.mul_one, Int.one_mul]; try exact rfl) | exact rfl)) rfl ?_; refine st_q (by exact q_assign rfl) rfl ?_; refine l_nil ?_) | refine n_then ?_ | refine c_block ?_ | refine c_skip ?_ | refine n_block ?_ | refine c_exit ?_ | refine n_then_exit ?_ | refine n_block_eq ?_ | refine n_block_ne rfl ?_ | refine c_ret ?_ | refine n_then_ret ?_ | refine n_block_ret ?_ | refine c_cond_t rfl ?_ | refine c_cond_f rfl ?_ | refine r_succ ?_ )
      refine c_round ⟨i + 1, zs⟩ ⟨h1, hzl, by have e : (i + 1) * ys.length = i * ys.length + ys.length := Nat.succ_mul _ _; dsimp only; rw [e]; exact hzb, ?_⟩ (by dsimp only; omega) ⟨rfl, rfl, rfl, rfl, trivial⟩ (by rfl) (by (repeat (first | exact List.Sublist.slnil | apply List.Sublist.cons_cons | apply List.Sublist.cons)))
      have := hI.val
      dsimp only at this ⊢
      rw [List.take_of_length_le (Nat.le_refl _)] at this
      rw [this, vl_take, Nat.add_mul, Nat.mul_assoc]
  · obtain rfl : i = xs.length := by omega
    repeat (first | refine c_seq ?_ | (refine c_region (id := 9) ?_; refine st_q (by exact q_assign rfl) rfl ?_; refine l_nil ?_) | refine n_then ?_ | refine c_block ?_ | refine c_skip ?_ | refine n_block ?_ | refine c_exit ?_ | refine n_then_exit ?_ | refine n_block_eq ?_ | refine n_block_ne rfl ?_ | refine c_ret ?_ | refine n_then_ret ?_ | refine n_block_ret ?_ | refine c_cond_t rfl ?_ | refine c_cond_f rfl ?_ | refine r_succ ?_ )
    refine c_loop (γ := Nat × List Nat) (fun z => [(8, .int .i64 z.1), (5, .slice (some ⟨w.heap.size, 0, none⟩) (xs.length + ys.length + 1) (xs.length + ys.length + 1))]) (fun _ => w.heap.size + 1) (fun z => [.sl (some ⟨w.heap.size, 0, none⟩) (xs.length + ys.length + 1) 3 1 (z.2.map IV)]) (MulR xs ys) (fun z => (xs.length + ys.length + 1) - z.1) ⟨0, zs⟩ ⟨by dsimp only; omega, hzl, by simp, ?_, ?_, by rw [List.take_of_length_le (Nat.le_refl _)] at hV; exact hV⟩ ⟨rfl, rfl, trivial⟩ rfl (by (repeat (first | exact List.Sublist.slnil | apply List.Sublist.cons_cons | apply List.Sublist.cons))) ?_
    · have b1 := dig_le hzb 0
      have b2 : xs.length * ys.length ≤ 100 * 100 := Nat.mul_le_mul hl1 hl2
      dsimp only
      omega
    · intro q _
      have b1 := dig_le hzb q
      have b2 : xs.length * ys.length ≤ 100 * 100 := Nat.mul_le_mul hl1 hl2
      dsimp only
      omega
    rintro ⟨i, zs⟩ hI
    have hi := hI.i
    have hzl := hI.ln
    have hzb := hI.at_
    have hzc := hI.hi (i + 1) (by dsimp only; omega)
    dsimp only at hi hzl hzb hzc ⊢
    by_cases h9 : i + 1 < (xs.length + ys.length + 1)
    · have hz1 := nthI (xs := zs) (i := i) (by omega)
      have hz2 := nthI (xs := zs) (i := i + 1) (by omega)
      have hz3 : nth ((zs.set (i + 1) (zs.getD (i + 1) 0 + zs.getD i 0 / 256)).map IV) i = some (.int .i64 ((zs.getD i 0 : Nat) : Int)) := by
        rw [nthI (by rw [List.length_set]; omega), getD_set i (by omega), if_neg (by omega)]
      repeat (first | refine c_seq ?_ | (refine c_region (id := 10) ?_; refine st_q (by exact q_move rfl) rfl ?_; refine st_q (by exact q_add64 rfl rfl ⟨by omega, by omega⟩ (by first | (simp only [Nat.zero_add, Nat.add_zero, Nat.mul_one, Nat.one_mul, Int.toNat_natCast, Int.reduceToNat, Nat.reduceMul, Nat.reduceAdd, Nat.reduceSub, Int.reduceAdd, Int.reduceSub, Int.reduceMul, Nat.sub_zero, Int.toNat_zero, Int.zero_add, Int.add_zero, Int.sub_zero, Int.mul_one, Int.one_mul]; try exact rfl) | exact rfl)) rfl ?_; refine st_q (by exact q_move rfl) rfl ?_; refine st_q (by (first | exact q_len_sl rfl | exact q_len_str rfl)) rfl ?_; refine st_q (by (first | exact Qt.cast (congrArg Value.bool (decide_eq_true (by omega))) (q_lss rfl rfl) | exact Qt.cast (congrArg Value.bool (decide_eq_false (by omega))) (q_lss rfl rfl))) rfl ?_; refine l_nil ?_) | (refine c_region (id := 11) ?_; refine st_q (by exact q_move rfl) rfl ?_; refine st_q (by exact q_add64 rfl rfl ⟨by omega, by omega⟩ (by first | (simp only [Nat.zero_add, Nat.add_zero, Nat.mul_one, Nat.one_mul, Int.toNat_natCast, Int.reduceToNat, Nat.reduceMul, Nat.reduceAdd, Nat.reduceSub, Int.reduceAdd, Int.reduceSub, Int.reduceMul, Nat.sub_zero, Int.toNat_zero, Int.zero_add, Int.add_zero, Int.sub_zero, Int.mul_one, Int.one_mul]; try exact rfl) | exact rfl)) rfl ?_; refine st_q (by exact q_assign rfl) rfl ?_; refine l_nil ?_) | (refine x_region (id := 12) (some 12) [(0, .n), (1, .n), (2, .n), (3, .n), (4, .q), (5, .n), (6, .n), (7, .n), (8, .q), (9, .n), (10, .n), (11, .n), (12, .b)] _ mixed (by kernel_rfl) (List.Sublist.refl _) ?_; refine x_n rfl (by exact q_move rfl) rfl ?_; refine x_n rfl (by exact q_move rfl) rfl ?_; refine x_n rfl (by exact q_add64 rfl rfl ⟨by omega, by omega⟩ (by first | (simp only [Nat.zero_add, Nat.add_zero, Nat.mul_one, Nat.one_mul, Int.toNat_natCast, Int.reduceToNat, Nat.reduceMul, Nat.reduceAdd, Nat.reduceSub, Int.reduceAdd, Int.reduceSub, Int.reduceMul, Nat.sub_zero, Int.toNat_zero, Int.zero_add, Int.add_zero, Int.sub_zero, Int.mul_one, Int.one_mul]; try exact rfl) | exact rfl)) rfl ?_; refine x_n rfl (by exact q_indexAddr_sl (o' := i + 1) rfl rfl (by omega) (by omega) (by omega)) rfl ?_; refine x_q rfl (by exact q_load rfl (by (first | exact Rd.blkn (by (repeat (first | exact List.Mem.head _ | apply List.Mem.tail))) (by first | rfl | assumption) | exact Rd.sln (by (repeat (first | exact List.Mem.head _ | apply List.Mem.tail))) (by first | rfl | assumption) | exact Rd.oldn (by assumption) (by first | rfl | assumption) (by simp) | exact Rd.old0 (by assumption) (by simp)))) rfl ?_; refine x_n rfl (by exact q_move rfl) rfl ?_; refine x_n rfl (by exact q_move rfl) rfl ?_; refine x_n rfl (by exact q_indexAddr_sl (o' := i) rfl rfl (by omega) (by omega) (by omega)) rfl ?_; refine x_q rfl (by exact q_load rfl (by (first | exact Rd.blkn (by (repeat (first | exact List.Mem.head _ | apply List.Mem.tail))) (by first | rfl | assumption) | exact Rd.sln (by (repeat (first | exact List.Mem.head _ | apply List.Mem.tail))) (by first | rfl | assumption) | exact Rd.oldn (by assumption) (by first | rfl | assumption) (by simp) | exact Rd.old0 (by assumption) (by simp)))) rfl ?_; refine x_n rfl (by exact Qt.cast (v' := .int .i64 ((zs.getD i 0 / 256 : Nat) : Int)) (congrArg (Value.int .i64) (by omega)) (q_quo rfl rfl (by omega) (by omega) (by simp only [IntKind.wrap_i64]; omega))) rfl ?_; refine x_n rfl (by exact Qt.cast (v' := .int .i64 ((zs.getD (i + 1) 0 + zs.getD i 0 / 256 : Nat) : Int)) (congrArg (Value.int .i64) (by omega)) (q_add64 rfl rfl ⟨by omega, by omega⟩ rfl)) rfl ?_; refine x_n rfl (by exact q_indexAddr_sl (o' := i + 1) rfl rfl (by omega) (by omega) (by omega)) rfl ?_; refine x_b rfl ?_; refine e_storeM IV zs (zs.getD (i + 1) 0 + zs.getD i 0 / 256) rfl rfl rfl (by (repeat (first | exact Pl.here | apply Pl.there))) (by omega) (by first | (left; simp; done) | (right; omega)) ?_; refine x_k (List.nil_sublist _) ?_; refine x_nil ?_) | (refine c_region (id := 13) ?_; refine st_q (by exact q_move rfl) rfl ?_; refine st_q (by exact q_move rfl) rfl ?_; refine st_q (by exact q_move rfl) rfl ?_; refine st_q (by exact q_move rfl) rfl ?_; refine st_q (by exact q_indexAddr_sl (o' := i) rfl rfl (by omega) (by omega) (by omega)) rfl ?_; refine st_q (by exact q_load rfl (by (first | exact Rd.blkn (by (repeat (first | exact List.Mem.head _ | apply List.Mem.tail))) (by first | rfl | assumption) | exact Rd.sln (by (repeat (first | exact List.Mem.head _ | apply List.Mem.tail))) (by first | rfl | assumption) | exact Rd.oldn (by assumption) (by first | rfl | assumption) (by simp) | exact Rd.old0 (by assumption) (by simp)))) rfl ?_; refine st_q (by exact Qt.cast (v' := .int .i64 ((zs.getD i 0 % 256 : Nat) : Int)) (congrArg (Value.int .i64) (by omega)) (q_rem rfl rfl (by omega) (by omega))) rfl ?_; refine st_q (by exact q_indexAddr_sl (o' := i) rfl rfl (by omega) (by omega) (by omega)) rfl ?_; refine st_e0 ?_; refine e_storeM IV _ (zs.getD i 0 % 256) rfl rfl rfl (by (repeat (first | exact Pl.here | apply Pl.there))) (by rw [List.length_set]; omega) (by first | (left; simp; done) | (right; omega)) ?_; refine l_nil ?_) | refine n_then ?_ | refine c_block ?_ | refine c_skip ?_ | refine n_block ?_ | refine c_exit ?_ | refine n_then_exit ?_ | refine n_block_eq ?_ | refine n_block_ne rfl ?_ | refine c_ret ?_ | refine n_then_ret ?_ | refine n_block_ret ?_ | refine c_cond_t rfl ?_ | refine c_cond_f rfl ?_ | refine r_succ ?_ )
      refine c_round ⟨i + 1, (zs.set (i + 1) (zs.getD (i + 1) 0 + zs.getD i 0 / 256)).set i (zs.getD i 0 % 256)⟩ (redStep hI h9) (by dsimp only; omega) ⟨rfl, rfl, trivial⟩ (by rfl) (by (repeat (first | exact List.Sublist.slnil | apply List.Sublist.cons_cons | apply List.Sublist.cons)))
    · repeat (first | refine c_seq ?_ | (refine c_region (id := 10) ?_; refine st_q (by exact q_move rfl) rfl ?_; refine st_q (by exact q_add64 rfl rfl ⟨by omega, by omega⟩ (by first | (simp only [Nat.zero_add, Nat.add_zero, Nat.mul_one, Nat.one_mul, Int.toNat_natCast, Int.reduceToNat, Nat.reduceMul, Nat.reduceAdd, Nat.reduceSub, Int.reduceAdd, Int.reduceSub, Int.reduceMul, Nat.sub_zero, Int.toNat_zero, Int.zero_add, Int.add_zero, Int.sub_zero, Int.mul_one, Int.one_mul]; try exact rfl) | exact rfl)) rfl ?_; refine st_q (by exact q_move rfl) rfl ?_; refine st_q (by (first | exact q_len_sl rfl | exact q_len_str rfl)) rfl ?_; refine st_q (by (first | exact Qt.cast (congrArg Value.bool (decide_eq_true (by omega))) (q_lss rfl rfl) | exact Qt.cast (congrArg Value.bool (decide_eq_false (by omega))) (q_lss rfl rfl))) rfl ?_; refine l_nil ?_) | (refine c_region (id := 14) ?_; refine st_q (by exact q_move rfl) rfl ?_; refine st_q (by exact q_assign rfl) rfl ?_; refine l_nil ?_) | refine n_then ?_ | refine c_block ?_ | refine c_skip ?_ | refine n_block ?_ | refine c_exit ?_ | refine n_then_exit ?_ | refine n_block_eq ?_ | refine n_block_ne rfl ?_ | refine c_ret ?_ | refine n_then_ret ?_ | refine n_block_ret ?_ | refine c_cond_t rfl ?_ | refine c_cond_f rfl ?_ | refine r_succ ?_ )
      have hfin := redEnd hx hy hI (by omega)
      refine fgt (L' := [.sl (some ⟨w.heap.size, 0, none⟩) (xs.length + ys.length + 1) 3 1 (zs.map IV)]) (T' := [(4, .slice (some ⟨w.heap.size, 0, none⟩) zs.length (xs.length + ys.length + 1))]) (by exact ⟨by rw [hzl]; rfl, trivial⟩) (by (repeat (first | exact List.Sublist.slnil | apply List.Sublist.cons_cons | apply List.Sublist.cons))) ?_
      (first | apply r_ret (some ⟨w.heap.size, 0, none⟩, (xs.length + ys.length + 1), zs) | apply r_end (some ⟨w.heap.size, 0, none⟩, (xs.length + ys.length + 1), zs)); exact rfl; exact rfl; exact (.tmp rfl .nil); exact rfl; exact (by exact (by (repeat (first | exact List.Sublist.slnil | apply List.Sublist.cons_cons | apply List.Sublist.cons)))); exact (new_sl (fun g hg => .inr (by simp [Chunk.foot] at hg; omega)) new_nil); exact ⟨⟨by dsimp only; omega, by dsimp only; omega, .inr ⟨_, rfl⟩⟩, hfin⟩
end Go.Proofs.Ytbkdopmnaopppaa
