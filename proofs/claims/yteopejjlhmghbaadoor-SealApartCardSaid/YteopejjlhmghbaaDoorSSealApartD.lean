/- SealApart: what it needs, part 4. -/
import Derived.Test.YteopejjlhmghbaaDoorSSealApartC
namespace Go.Proofs.YteopejjlhmghbaaDoor
open Go Go.RowKit
set_option linter.unusedVariables false
set_option linter.unusedSimpArgs false
section
variable {P : Program} {n m d : Nat} {T : List (Nat × Value)} {X : List Nat} {w0 : World} {L L' : List Chunk} {K : Act → World → Prop} {Q : Exit → Act → World → Prop}
  {ty t : TypeId} {pos : String} {af : Array Edge} {gu : Option (Nat × Bool)} {x y : Operand}
theorem e_storeM {α : Type} (enc : α → Value) (zs : List α) (z : α) {g off cap : Nat} {tt : TypeId} (hx : ev T x = some (.pointer (some ⟨g, off, none⟩))) (hy : ev T y = some (enc z)) [hs : SzT P t 1] (ho : (enc z).oneCell' = true) (hp : Pl (.sl (some ⟨g, 0, none⟩) cap tt 1 (zs.map enc)) (.sl (some ⟨g, 0, none⟩) cap tt 1 ((zs.set off z).map enc)) L L') (hoff : off < zs.length)
    (hg : g ∈ X ∨ w0.heap.size ≤ g) (h : ∀ a w, SS n T X w0 m L' a w → K a w) : ∀ a w, SS n T X w0 m L a w → OW P ⟨none, .store t x y, ty, pos, af, gu⟩ K Q a w := by
  rw [List.map_set] at hp
  exact e_store_sl hx hy ho hp (by simpa using hoff) hg h
end
theorem getD_set {zs : List Nat} {j v : Nat} (i : Nat) (hj : j < zs.length) : (zs.set j v).getD i 0 = if j = i then v else zs.getD i 0 := by
  rw [List.getD_eq_getElem?_getD, List.getElem?_set, List.getD_eq_getElem?_getD]
  by_cases e : j = i
  · subst e; simp [hj]
  · simp [e]
theorem vl_split (zs : List Nat) (i : Nat) : vl zs = vl (zs.take i) + 256 ^ (zs.take i).length * vl (zs.drop i) := by
  conv => lhs; rw [← List.take_append_drop i zs]
  exact vl_append _ _
theorem vl_add {zs : List Nat} {i : Nat} (hi : i < zs.length) (x : Nat) : vl (zs.set i (zs.getD i 0 + x)) = vl zs + 256 ^ i * x := by
  have := vl_set zs i (zs.getD i 0 + x) hi
  rw [Nat.mul_add] at this
  omega
theorem vl_ge (zs : List Nat) (i : Nat) (hi : i < zs.length) : 256 ^ i * zs.getD i 0 ≤ vl zs := by
  have h1 := vl_split zs (i + 1)
  rw [vl_take_succ zs i hi] at h1
  omega
theorem dig_le {zs : List Nat} {B : Nat} (h : ∀ d ∈ zs, d ≤ B) (i : Nat) : zs.getD i 0 ≤ B := by
  rw [List.getD_eq_getElem?_getD]
  cases hi : zs[i]? with
  | none => simp
  | some x => exact h x (List.mem_of_getElem? hi)
theorem all_of_getD {zs : List Nat} {p : Nat → Prop} (h : ∀ i, i < zs.length → p (zs.getD i 0)) : ∀ d ∈ zs, p d := by
  intro d hd
  obtain ⟨i, hi, rfl⟩ := List.getElem_of_mem hd
  have := h i hi
  rwa [List.getD_eq_getElem?_getD, List.getElem?_eq_getElem hi] at this
structure MulI (xs ys : List Nat) (i : Nat) (z : Nat × List Nat) : Prop where
  j : z.1 ≤ ys.length
  ln : z.2.length = (xs.length + ys.length + 1)
  bd : ∀ d ∈ z.2, d ≤ 65025 * (i * ys.length + z.1)
  val : vl z.2 = vl (xs.take i) * vl ys + 256 ^ i * (xs.getD i 0 * vl (ys.take z.1))
theorem mulStep {xs ys zs : List Nat} {i j p : Nat} (hx : ∀ x ∈ xs, x < 256) (hy : ∀ x ∈ ys, x < 256) (hi : i < xs.length) (hj : j < ys.length) (h : MulI xs ys i (j, zs)) (hp : p = xs.getD i 0 * ys.getD j 0) : MulI xs ys i (j + 1, zs.set (i + j) (zs.getD (i + j) 0 + p)) := by
  obtain ⟨h1, h2, h3, h4⟩ := h
  dsimp only at h1 h2 h3 h4
  have hpb : p ≤ 65025 := by
    rw [hp]
    exact Nat.mul_le_mul (Nat.le_of_lt_succ (getD_lt hx (by omega) i)) (Nat.le_of_lt_succ (getD_lt hy (by omega) j))
  refine ⟨hj, by simp [h2], all_of_getD fun k hk => ?_, ?_⟩
  · rw [List.length_set] at hk
    rw [getD_set k (by omega)]
    have b1 := dig_le h3 k
    have b2 := dig_le h3 (i + j)
    dsimp only
    split <;> omega
  · dsimp only
    rw [vl_add (by omega), h4, vl_take, Nat.mul_add, Nat.mul_add, ← Nat.add_assoc, hp]
    congr 1
    rw [Nat.pow_add]
    simp only [Nat.mul_assoc, Nat.mul_left_comm, Nat.mul_comm]
structure MulO (xs ys : List Nat) (z : Nat × List Nat) : Prop where
  i : z.1 ≤ xs.length
  ln : z.2.length = (xs.length + ys.length + 1)
  bd : ∀ d ∈ z.2, d ≤ 65025 * (z.1 * ys.length)
  val : vl z.2 = vl (xs.take z.1) * vl ys
structure MulR (xs ys : List Nat) (z : Nat × List Nat) : Prop where
  i : z.1 < (xs.length + ys.length + 1)
  ln : z.2.length = (xs.length + ys.length + 1)
  lo : ∀ j, j < z.1 → z.2.getD j 0 < 256
  at_ : z.2.getD z.1 0 ≤ 1300500000
  hi : ∀ j, z.1 < j → z.2.getD j 0 ≤ 650250000
  val : vl z.2 = vl xs * vl ys
theorem redStep {xs ys zs : List Nat} {i : Nat} (h : MulR xs ys (i, zs)) (hi : i + 1 < (xs.length + ys.length + 1)) : MulR xs ys (i + 1, (zs.set (i + 1) (zs.getD (i + 1) 0 + zs.getD i 0 / 256)).set i (zs.getD i 0 % 256)) := by
  obtain ⟨h1, h2, h3, h4, h5, h6⟩ := h
  dsimp only at h1 h2 h3 h4 h5 h6
  have hl : (zs.set (i + 1) (zs.getD (i + 1) 0 + zs.getD i 0 / 256)).length = zs.length := List.length_set
  refine ⟨by dsimp only; omega, by simp [h2], fun j hj => ?_, ?_, fun j hj => ?_, ?_⟩
  · dsimp only at hj ⊢
    rw [getD_set j (by omega), getD_set j (by omega)]
    by_cases e : i = j
    · rw [if_pos e]; omega
    · rw [if_neg e, if_neg (by omega)]; exact h3 j (by omega)
  · dsimp only
    rw [getD_set _ (by omega), getD_set _ (by omega), if_neg (by omega), if_pos rfl]
    have := h5 (i + 1) (by omega)
    omega
  · dsimp only at hj ⊢
    rw [getD_set j (by omega), getD_set j (by omega), if_neg (by omega), if_neg (by omega)]
    exact h5 j (by omega)
  · dsimp only
    have e1 := vl_add (zs := zs) (i := i + 1) (by omega) (zs.getD i 0 / 256)
    have e2 := vl_set (zs.set (i + 1) (zs.getD (i + 1) 0 + zs.getD i 0 / 256)) i (zs.getD i 0 % 256) (by omega)
    rw [getD_set i (by omega), if_neg (by omega), e1] at e2
    have e3 : 256 ^ i * zs.getD i 0 = 256 ^ (i + 1) * (zs.getD i 0 / 256) + 256 ^ i * (zs.getD i 0 % 256) := by
      rw [Nat.pow_succ, Nat.mul_assoc, ← Nat.mul_add]
      congr 1
      omega
    omega
theorem redEnd {xs ys zs : List Nat} {i : Nat} (hx : ∀ x ∈ xs, x < 256) (hy : ∀ x ∈ ys, x < 256) (h : MulR xs ys (i, zs)) (hi : (xs.length + ys.length + 1) ≤ i + 1) : (∀ d ∈ zs, d < 256) ∧ vl zs = vl xs * vl ys ∧ zs.length = (xs.length + ys.length + 1) := by
  obtain ⟨h1, h2, h3, h4, h5, h6⟩ := h
  dsimp only at h1 h2 h3 h4 h5 h6
  refine ⟨all_of_getD fun j hj => ?_, h6, h2⟩
  by_cases e : j < i
  · exact h3 j e
  · have hj2 : j = xs.length + ys.length := by omega
    subst hj2
    have h7 := vl_ge zs _ hj
    have h8 : vl zs < 256 ^ (xs.length + ys.length) := by
      rw [h6, Nat.pow_add]
      exact Nat.mul_lt_mul'' (vl_lt xs hx) (vl_lt ys hy)
    rcases Nat.eq_zero_or_pos (zs.getD (xs.length + ys.length) 0) with h9 | h9
    · omega
    · have := Nat.mul_le_mul_left (256 ^ (xs.length + ys.length)) h9
      omega
set_option maxRecDepth 100000 in
set_option maxHeartbeats 4000000 in
theorem rmul_c (a1 a2 : Option Addr) (cap1 cap2 : Nat) (xs ys : List Nat) (hx : ∀ x ∈ xs, x < 256) (hy : ∀ x ∈ ys, x < 256) (hl1 : xs.length ≤ 100) (hl2 : ys.length ≤ 100) (w : World) (hs1 : SlE IV w a1 xs) (hs2 : SlE IV w a2 ys) :
    CA Tryd.prog 45 [.slice a1 xs.length cap1, .slice a2 ys.length cap2] w (RLe IV 3 (fun zs => (∀ d ∈ zs, d < 256) ∧ vl zs = vl xs * vl ys ∧ zs.length = (xs.length + ys.length + 1)) w) := by
  refine enter (L := []) (X := []) Tryd.func45 rfl Tryd.ntmps45 rfl rfl (Has.nil _) ?_
  repeat (first | refine c_seq ?_ | (refine c_region (id := 0) ?_; refine sq qa ?_; refine l_nil ?_) | (refine c_region (id := 1) ?_; refine sq qm ?_; refine sq qls ?_; refine sq qm ?_; refine sq qls ?_; refine sq qadd64 ?_; refine sq (by exact Qt.cast (v' := .int .i64 ((xs.length + ys.length + 1 : Nat) : Int)) (congrArg (Value.int .i64) (by omega)) (q_add64 rfl rfl ⟨by omega, by omega⟩ rfl)) ?_; refine se ?_; (first | refine em ?_ | refine pemi ?_); refine sq qa ?_; refine l_nil ?_) | (refine c_region (id := 2) ?_; refine sq qa ?_; refine l_nil ?_) | refine n_then ?_ | refine c_block ?_ | refine c_skip ?_ | refine n_block ?_ | refine c_exit ?_ | refine n_then_exit ?_ | refine n_block_eq ?_ | refine n_block_ne rfl ?_ | refine c_ret ?_ | refine n_then_ret ?_ | refine n_block_ret ?_ | refine c_cond_t rfl ?_ | refine c_cond_f rfl ?_ | refine r_succ ?_ )
  refine chg (L' := [.sl (some ⟨w.heap.size, 0, none⟩) (xs.length + ys.length + 1) 3 1 ((List.replicate (xs.length + ys.length + 1) 0).map IV)]) (by rw [List.map_replicate]; rfl) ?_
  refine c_loop (γ := Nat × List Nat) (fun z => [(6, .int .i64 z.1), (5, .slice (some ⟨w.heap.size, 0, none⟩) (xs.length + ys.length + 1) (xs.length + ys.length + 1)), (0, .slice a1 xs.length cap1), (1, .slice a2 ys.length cap2)]) (fun _ => w.heap.size + 1) (fun z => [.sl (some ⟨w.heap.size, 0, none⟩) (xs.length + ys.length + 1) 3 1 (z.2.map IV)]) (MulO xs ys) (fun z => xs.length - z.1) ⟨0, List.replicate (xs.length + ys.length + 1) 0⟩ ⟨by simp, by simp, fun d hd => by simp at hd; omega, by simp [vl, vl_zeros]⟩ ⟨rfl, rfl, rfl, rfl, trivial⟩ rfl (by (repeat (first | exact List.nil_sublist _ | exact List.Sublist.slnil | apply List.Sublist.cons_cons | exact List.Sublist.refl _ | apply List.Sublist.cons))) ?_
  rintro ⟨i, zs⟩ ⟨hi, hzl, hzb, hV⟩
  dsimp only at hi hzl hzb hV ⊢
  repeat (first | refine c_seq ?_ | (refine c_region (id := 3) ?_; refine sq qm ?_; refine sq qm ?_; refine sq qls ?_; refine sq qlss ?_; refine l_nil ?_) | refine n_then ?_ | refine c_block ?_ | refine c_skip ?_ | refine n_block ?_ | refine c_exit ?_ | refine n_then_exit ?_ | refine n_block_eq ?_ | refine n_block_ne rfl ?_ | refine c_ret ?_ | refine n_then_ret ?_ | refine n_block_ret ?_ | refine c_cond_t rfl ?_ | refine c_cond_f rfl ?_ | refine r_succ ?_ )
  refine c_cond_dec rfl (fun h => ?_) (fun h => ?_)
  · have h1 : i < xs.length := by omega
    repeat (first | refine c_seq ?_ | (refine c_region (id := 5) ?_; refine sq qa ?_; refine l_nil ?_) | refine n_then ?_ | refine c_block ?_ | refine c_skip ?_ | refine n_block ?_ | refine c_exit ?_ | refine n_then_exit ?_ | refine n_block_eq ?_ | refine n_block_ne rfl ?_ | refine c_ret ?_ | refine n_then_ret ?_ | refine n_block_ret ?_ | refine c_cond_t rfl ?_ | refine c_cond_f rfl ?_ | refine r_succ ?_ )
    refine c_loop (γ := Nat × List Nat) (fun z => [(7, .int .i64 z.1), (6, .int .i64 i), (5, .slice (some ⟨w.heap.size, 0, none⟩) (xs.length + ys.length + 1) (xs.length + ys.length + 1)), (0, .slice a1 xs.length cap1), (1, .slice a2 ys.length cap2)]) (fun _ => w.heap.size + 1) (fun z => [.sl (some ⟨w.heap.size, 0, none⟩) (xs.length + ys.length + 1) 3 1 (z.2.map IV)]) (MulI xs ys i) (fun z => ys.length - z.1) ⟨0, zs⟩ ⟨by simp, hzl, hzb, by simp [vl, hV]⟩ ⟨rfl, rfl, rfl, rfl, rfl, trivial⟩ rfl (by (repeat (first | exact List.nil_sublist _ | exact List.Sublist.slnil | apply List.Sublist.cons_cons | exact List.Sublist.refl _ | apply List.Sublist.cons))) ?_
    rintro ⟨j, zs⟩ hI
    have hj := hI.j
    have hzl := hI.ln
    have hzb := hI.bd
    dsimp only at hj hzl hzb ⊢
    repeat (first | refine c_seq ?_ | (refine c_region (id := 6) ?_; refine sq qm ?_; refine sq qm ?_; refine sq qls ?_; refine sq qlss ?_; refine l_nil ?_) | refine n_then ?_ | refine c_block ?_ | refine c_skip ?_ | refine n_block ?_ | refine c_exit ?_ | refine n_then_exit ?_ | refine n_block_eq ?_ | refine n_block_ne rfl ?_ | refine c_ret ?_ | refine n_then_ret ?_ | refine n_block_ret ?_ | refine c_cond_t rfl ?_ | refine c_cond_f rfl ?_ | refine r_succ ?_ )
    refine c_cond_dec rfl (fun h => ?_) (fun h => ?_)
    · have h2 : j < ys.length := by omega
      obtain ⟨g1, o1, rfl, hO1⟩ := hs1.get h1
      obtain ⟨g2, o2, rfl, hO2⟩ := hs2.get h2
      have hz1 := nthI h1
      have hz2 := nthI h2
      have hz3 := nthI (xs := zs) (i := i + j) (by omega)
      obtain ⟨p, hp⟩ : ∃ p, p = xs.getD i 0 * ys.getD j 0 := ⟨_, rfl⟩
      have hpc : ((xs.getD i 0 : Nat) : Int) * ((ys.getD j 0 : Nat) : Int) = (p : Int) := by rw [hp, Int.natCast_mul]
      have hp9 : p ≤ 65025 := by
        rw [hp]
        exact Nat.mul_le_mul (Nat.le_of_lt_succ (getD_lt hx (by omega) i)) (Nat.le_of_lt_succ (getD_lt hy (by omega) j))
      have hpb : -9223372036854775808 ≤ ((xs.getD i 0 : Nat) : Int) * ((ys.getD j 0 : Nat) : Int) ∧ ((xs.getD i 0 : Nat) : Int) * ((ys.getD j 0 : Nat) : Int) ≤ 9223372036854775807 := by rw [hpc]; omega
      have hzb9 : zs.getD (i + j) 0 ≤ 700000000 := by
        have b1 := dig_le hzb (i + j)
        have b2 : i * ys.length ≤ 100 * 100 := Nat.mul_le_mul (by omega) hl2
        omega
      repeat (first | refine c_seq ?_ | (refine c_region (id := 7) ?_; refine sq qm ?_; refine sq qadd64 ?_; refine sq qa ?_; refine l_nil ?_) | (refine x_region (id := 8) (some 17) [(0, .n), (1, .n), (2, .n), (3, .n), (4, .n), (5, .q), (6, .n), (7, .n), (8, .n), (9, .q), (10, .n), (11, .n), (12, .n), (13, .q), (14, .n), (15, .n), (16, .n), (17, .b)] _ mixed (by kernel_rfl) (List.Sublist.refl _) ?_; refine xn rfl qm ?_; refine xn rfl qm ?_; refine xn rfl qm ?_; refine xn rfl qadd64 ?_; refine xn rfl (by exact q_indexAddr_sl (o' := i + j) rfl rfl (by omega) (by omega) (by omega)) ?_; refine xq rfl ql ?_; refine xn rfl qm ?_; refine xn rfl qm ?_; refine xn rfl (by exact q_indexAddr_sl (o' := o1 + i) rfl rfl (by omega) (by omega) (by omega)) ?_; refine xq rfl ql ?_; refine xn rfl qm ?_; refine xn rfl qm ?_; refine xn rfl (by exact q_indexAddr_sl (o' := o2 + j) rfl rfl (by omega) (by omega) (by omega)) ?_; refine xq rfl ql ?_; refine xn rfl (by exact Qt.cast (v' := .int .i64 ((p : Nat) : Int)) (congrArg (Value.int .i64) (by rw [hp, Int.natCast_mul])) (q_mul64 rfl rfl hpb rfl)) ?_; refine xn rfl (by exact Qt.cast (v' := .int .i64 ((zs.getD (i + j) 0 + p : Nat) : Int)) (congrArg (Value.int .i64) (by omega)) (q_add64 rfl rfl ⟨by omega, by omega⟩ rfl)) ?_; refine xn rfl (by exact q_indexAddr_sl (o' := i + j) rfl rfl (by omega) (by omega) (by omega)) ?_; refine x_b rfl ?_; refine e_storeM IV zs (zs.getD (i + j) 0 + p) rfl rfl rfl (by (repeat (first | exact Pl.here | apply Pl.there))) (by omega) (by first | (left; simp; done) | (right; omega)) ?_; refine x_k (List.nil_sublist _) ?_; refine x_nil ?_) | refine n_then ?_ | refine c_block ?_ | refine c_skip ?_ | refine n_block ?_ | refine c_exit ?_ | refine n_then_exit ?_ | refine n_block_eq ?_ | refine n_block_ne rfl ?_ | refine c_ret ?_ | refine n_then_ret ?_ | refine n_block_ret ?_ | refine c_cond_t rfl ?_ | refine c_cond_f rfl ?_ | refine r_succ ?_ )
      refine c_round ⟨j + 1, zs.set (i + j) (zs.getD (i + j) 0 + p)⟩ (mulStep hx hy h1 h2 hI hp) (by dsimp only; omega) ⟨rfl, rfl, rfl, rfl, rfl, trivial⟩ (by rfl) (by (repeat (first | exact List.nil_sublist _ | exact List.Sublist.slnil | apply List.Sublist.cons_cons | exact List.Sublist.refl _ | apply List.Sublist.cons)))
    · obtain rfl : j = ys.length := by omega
      repeat (first | refine c_seq ?_ | (refine c_region (id := 4) ?_; refine sq qm ?_; refine sq qadd64 ?_; refine sq qa ?_; refine l_nil ?_) | refine n_then ?_ | refine c_block ?_ | refine c_skip ?_ | refine n_block ?_ | refine c_exit ?_ | refine n_then_exit ?_ | refine n_block_eq ?_ | refine n_block_ne rfl ?_ | refine c_ret ?_ | refine n_then_ret ?_ | refine n_block_ret ?_ | refine c_cond_t rfl ?_ | refine c_cond_f rfl ?_ | refine r_succ ?_ )
      refine c_round ⟨i + 1, zs⟩ ⟨h1, hzl, by have e : (i + 1) * ys.length = i * ys.length + ys.length := Nat.succ_mul _ _; dsimp only; rw [e]; exact hzb, ?_⟩ (by dsimp only; omega) ⟨rfl, rfl, rfl, rfl, trivial⟩ (by rfl) (by (repeat (first | exact List.nil_sublist _ | exact List.Sublist.slnil | apply List.Sublist.cons_cons | exact List.Sublist.refl _ | apply List.Sublist.cons)))
      have := hI.val
      dsimp only at this ⊢
      rw [List.take_of_length_le (Nat.le_refl _)] at this
      rw [this, vl_take, Nat.add_mul, Nat.mul_assoc]
  · obtain rfl : i = xs.length := by omega
    repeat (first | refine c_seq ?_ | (refine c_region (id := 9) ?_; refine sq qa ?_; refine l_nil ?_) | refine n_then ?_ | refine c_block ?_ | refine c_skip ?_ | refine n_block ?_ | refine c_exit ?_ | refine n_then_exit ?_ | refine n_block_eq ?_ | refine n_block_ne rfl ?_ | refine c_ret ?_ | refine n_then_ret ?_ | refine n_block_ret ?_ | refine c_cond_t rfl ?_ | refine c_cond_f rfl ?_ | refine r_succ ?_ )
    refine c_loop (γ := Nat × List Nat) (fun z => [(8, .int .i64 z.1), (5, .slice (some ⟨w.heap.size, 0, none⟩) (xs.length + ys.length + 1) (xs.length + ys.length + 1))]) (fun _ => w.heap.size + 1) (fun z => [.sl (some ⟨w.heap.size, 0, none⟩) (xs.length + ys.length + 1) 3 1 (z.2.map IV)]) (MulR xs ys) (fun z => (xs.length + ys.length + 1) - z.1) ⟨0, zs⟩ ⟨by dsimp only; omega, hzl, by simp, ?_, ?_, by rw [List.take_of_length_le (Nat.le_refl _)] at hV; exact hV⟩ ⟨rfl, rfl, trivial⟩ rfl (by (repeat (first | exact List.nil_sublist _ | exact List.Sublist.slnil | apply List.Sublist.cons_cons | exact List.Sublist.refl _ | apply List.Sublist.cons))) ?_
    · have b1 := dig_le hzb 0
      have b2 : xs.length * ys.length ≤ 100 * 100 := Nat.mul_le_mul hl1 hl2
      dsimp only
      omega
    · intro q _
      have b1 := dig_le hzb q
      have b2 : xs.length * ys.length ≤ 100 * 100 := Nat.mul_le_mul hl1 hl2
      dsimp only
      omega
    rintro ⟨i, zs⟩ hI
    have hi := hI.i
    have hzl := hI.ln
    have hzb := hI.at_
    have hzc := hI.hi (i + 1) (by dsimp only; omega)
    dsimp only at hi hzl hzb hzc ⊢
    by_cases h9 : i + 1 < (xs.length + ys.length + 1)
    · have hz1 := nthI (xs := zs) (i := i) (by omega)
      have hz2 := nthI (xs := zs) (i := i + 1) (by omega)
      have hz3 : nth ((zs.set (i + 1) (zs.getD (i + 1) 0 + zs.getD i 0 / 256)).map IV) i = some (.int .i64 ((zs.getD i 0 : Nat) : Int)) := by
        rw [nthI (by rw [List.length_set]; omega), getD_set i (by omega), if_neg (by omega)]
      repeat (first | refine c_seq ?_ | (refine c_region (id := 10) ?_; refine sq qm ?_; refine sq qadd64 ?_; refine sq qm ?_; refine sq qls ?_; refine sq (by first | exact dlsst | exact dlssf) ?_; refine l_nil ?_) | (refine c_region (id := 11) ?_; refine sq qm ?_; refine sq qadd64 ?_; refine sq qa ?_; refine l_nil ?_) | (refine x_region (id := 12) (some 12) [(0, .n), (1, .n), (2, .n), (3, .n), (4, .q), (5, .n), (6, .n), (7, .n), (8, .q), (9, .n), (10, .n), (11, .n), (12, .b)] _ mixed (by kernel_rfl) (List.Sublist.refl _) ?_; refine xn rfl qm ?_; refine xn rfl qm ?_; refine xn rfl qadd64 ?_; refine xn rfl (by exact q_indexAddr_sl (o' := i + 1) rfl rfl (by omega) (by omega) (by omega)) ?_; refine xq rfl ql ?_; refine xn rfl qm ?_; refine xn rfl qm ?_; refine xn rfl (by exact q_indexAddr_sl (o' := i) rfl rfl (by omega) (by omega) (by omega)) ?_; refine xq rfl ql ?_; refine xn rfl (by exact Qt.cast (v' := .int .i64 ((zs.getD i 0 / 256 : Nat) : Int)) (congrArg (Value.int .i64) (by omega)) (q_quo rfl rfl (by omega) (by omega) (by simp only [IntKind.wrap_i64]; omega))) ?_; refine xn rfl (by exact Qt.cast (v' := .int .i64 ((zs.getD (i + 1) 0 + zs.getD i 0 / 256 : Nat) : Int)) (congrArg (Value.int .i64) (by omega)) (q_add64 rfl rfl ⟨by omega, by omega⟩ rfl)) ?_; refine xn rfl (by exact q_indexAddr_sl (o' := i + 1) rfl rfl (by omega) (by omega) (by omega)) ?_; refine x_b rfl ?_; refine e_storeM IV zs (zs.getD (i + 1) 0 + zs.getD i 0 / 256) rfl rfl rfl (by (repeat (first | exact Pl.here | apply Pl.there))) (by omega) (by first | (left; simp; done) | (right; omega)) ?_; refine x_k (List.nil_sublist _) ?_; refine x_nil ?_) | (refine c_region (id := 13) ?_; refine sq qm ?_; refine sq qm ?_; refine sq qm ?_; refine sq qm ?_; refine sq (by exact q_indexAddr_sl (o' := i) rfl rfl (by omega) (by omega) (by omega)) ?_; refine sq ql ?_; refine sq (by exact Qt.cast (v' := .int .i64 ((zs.getD i 0 % 256 : Nat) : Int)) (congrArg (Value.int .i64) (by omega)) (q_rem rfl rfl (by omega) (by omega))) ?_; refine sq (by exact q_indexAddr_sl (o' := i) rfl rfl (by omega) (by omega) (by omega)) ?_; refine se ?_; refine e_storeM IV _ (zs.getD i 0 % 256) rfl rfl rfl (by (repeat (first | exact Pl.here | apply Pl.there))) (by rw [List.length_set]; omega) (by first | (left; simp; done) | (right; omega)) ?_; refine l_nil ?_) | refine n_then ?_ | refine c_block ?_ | refine c_skip ?_ | refine n_block ?_ | refine c_exit ?_ | refine n_then_exit ?_ | refine n_block_eq ?_ | refine n_block_ne rfl ?_ | refine c_ret ?_ | refine n_then_ret ?_ | refine n_block_ret ?_ | refine c_cond_t rfl ?_ | refine c_cond_f rfl ?_ | refine r_succ ?_ )
      refine c_round ⟨i + 1, (zs.set (i + 1) (zs.getD (i + 1) 0 + zs.getD i 0 / 256)).set i (zs.getD i 0 % 256)⟩ (redStep hI h9) (by dsimp only; omega) ⟨rfl, rfl, trivial⟩ (by rfl) (by (repeat (first | exact List.nil_sublist _ | exact List.Sublist.slnil | apply List.Sublist.cons_cons | exact List.Sublist.refl _ | apply List.Sublist.cons)))
    · repeat (first | refine c_seq ?_ | (refine c_region (id := 10) ?_; refine sq qm ?_; refine sq qadd64 ?_; refine sq qm ?_; refine sq qls ?_; refine sq (by first | exact dlsst | exact dlssf) ?_; refine l_nil ?_) | (refine c_region (id := 14) ?_; refine sq qm ?_; refine sq qa ?_; refine l_nil ?_) | refine n_then ?_ | refine c_block ?_ | refine c_skip ?_ | refine n_block ?_ | refine c_exit ?_ | refine n_then_exit ?_ | refine n_block_eq ?_ | refine n_block_ne rfl ?_ | refine c_ret ?_ | refine n_then_ret ?_ | refine n_block_ret ?_ | refine c_cond_t rfl ?_ | refine c_cond_f rfl ?_ | refine r_succ ?_ )
      have hfin := redEnd hx hy hI (by omega)
      refine fgt (L' := [.sl (some ⟨w.heap.size, 0, none⟩) (xs.length + ys.length + 1) 3 1 (zs.map IV)]) (T' := [(4, .slice (some ⟨w.heap.size, 0, none⟩) zs.length (xs.length + ys.length + 1))]) (by exact ⟨by rw [hzl]; rfl, trivial⟩) (by (repeat (first | exact List.nil_sublist _ | exact List.Sublist.slnil | apply List.Sublist.cons_cons | exact List.Sublist.refl _ | apply List.Sublist.cons))) ?_
      (first | apply r_ret (some ⟨w.heap.size, 0, none⟩, (xs.length + ys.length + 1), zs) | apply r_end (some ⟨w.heap.size, 0, none⟩, (xs.length + ys.length + 1), zs)); exact rfl; exact rfl; exact (.tmp rfl .nil); exact rfl; exact (by exact (by (repeat (first | exact List.nil_sublist _ | exact List.Sublist.slnil | apply List.Sublist.cons_cons | exact List.Sublist.refl _ | apply List.Sublist.cons)))); exact (new_sl (fun g hg => .inr (by simp [Chunk.foot] at hg; omega)) new_nil); exact ⟨⟨by dsimp only; omega, by dsimp only; omega, .inr ⟨_, rfl⟩⟩, hfin⟩
end Go.Proofs.YteopejjlhmghbaaDoor
namespace Go.Proofs.YteopejjlhmghbaaDoor
open Go Go.RowKit
set_option linter.unusedVariables false
set_option linter.unusedSimpArgs false
def mst (i : Nat) : Nat := if i = 0 then 250 else if i < 16 then 255 else if i = 16 then 3 else 0
def mstL (i : Nat) : List Nat := (List.range i).map mst
theorem mst_lt (i : Nat) : mst i < 256 := by unfold mst; split <;> (try split) <;> (try split) <;> omega
theorem mstL_succ (i : Nat) : mstL (i + 1) = mstL i ++ [mst i] := by simp [mstL, List.range_succ]
theorem mstL_lt (i : Nat) : vl (mstL i) < 256 ^ i := by
  have := vl_lt (mstL i) (fun x hx => by
    obtain ⟨j, _, rfl⟩ := List.mem_map.1 hx
    exact mst_lt j)
  rwa [show (mstL i).length = i by simp [mstL]] at this
theorem mstL_17 : ∀ n, vl (mstL (17 + n)) = P130 - 1
  | 0 => by decide
  | n + 1 => by
    rw [show 17 + (n + 1) = 17 + n + 1 by omega, mstL_succ, vl_snoc, mstL_17 n, show mst (17 + n) = 0 by unfold mst; rw [if_neg (by omega), if_neg (by omega), if_neg (by omega)]]
    rfl
theorem lexi {A M K x m : Nat} (hA : A < K) (hM : M < K) : (A + K * x ≤ M + K * m ↔ x < m ∨ x = m ∧ A ≤ M) := by
  rcases Nat.lt_trichotomy x m with h | h | h
  · have := Nat.mul_le_mul_left K h
    rw [Nat.mul_succ] at this
    constructor
    · intro _; exact .inl h
    · intro _; omega
  · subst h; omega
  · have := Nat.mul_le_mul_left K h
    rw [Nat.mul_succ] at this
    constructor
    · intro _; omega
    · rintro (h2 | h2) <;> omega
theorem less_step {xs : List Nat} {i : Nat} {lo : Bool} (hx : ∀ x ∈ xs, x < 256) (hlo : lo = decide (vl (xs.take i) ≤ vl (mstL i))) : decide (vl (xs.take (i + 1)) ≤ vl (mstL (i + 1))) = (decide (xs.getD i 0 < mst i) || decide (xs.getD i 0 = mst i) && lo) := by
  have hA : vl (xs.take i) < 256 ^ i := by
    have := vl_lt (xs.take i) (fun x h => hx x (List.mem_of_mem_take h))
    exact Nat.lt_of_lt_of_le this (Nat.pow_le_pow_right (by omega) (by simp; omega))
  rw [vl_take, mstL_succ, vl_snoc, show (mstL i).length = i by simp [mstL], hlo]
  have := lexi (x := xs.getD i 0) (m := mst i) hA (mstL_lt i)
  rw [Bool.eq_iff_iff]
  simp only [decide_eq_true_eq, Bool.or_eq_true, Bool.and_eq_true]
  exact this
theorem less_lt {xs : List Nat} {i : Nat} {lo : Bool} (hx : ∀ x ∈ xs, x < 256) (hlo : lo = decide (vl (xs.take i) ≤ vl (mstL i))) (h : xs.getD i 0 < mst i) : true = decide (vl (xs.take (i + 1)) ≤ vl (mstL (i + 1))) := by
  rw [less_step hx hlo, decide_eq_true h]; rfl
theorem less_eq {xs : List Nat} {i : Nat} {lo : Bool} (hx : ∀ x ∈ xs, x < 256) (hlo : lo = decide (vl (xs.take i) ≤ vl (mstL i))) (h : xs.getD i 0 = mst i) : lo = decide (vl (xs.take (i + 1)) ≤ vl (mstL (i + 1))) := by
  rw [less_step hx hlo, decide_eq_false (by omega : ¬ xs.getD i 0 < mst i), decide_eq_true h]; simp
theorem less_gt {xs : List Nat} {i : Nat} {lo : Bool} (hx : ∀ x ∈ xs, x < 256) (hlo : lo = decide (vl (xs.take i) ≤ vl (mstL i))) (h : mst i < xs.getD i 0) : false = decide (vl (xs.take (i + 1)) ≤ vl (mstL (i + 1))) := by
  rw [less_step hx hlo, decide_eq_false (by omega : ¬ xs.getD i 0 < mst i), decide_eq_false (by omega : ¬ xs.getD i 0 = mst i)]; simp
set_option maxRecDepth 100000 in
set_option maxHeartbeats 4000000 in
theorem rless_c (a : Option Addr) (cap0 : Nat) (xs : List Nat) (hx : ∀ x ∈ xs, x < 256) (hl : 17 ≤ xs.length) (hl2 : xs.length ≤ 1000) (w : World) (hs : SlE IV w a xs) :
    CA Tryd.prog 57 [.slice a xs.length cap0] w (RV (.bool (decide (vl xs < P130))) w) := by
  refine enter (L := []) (X := []) Tryd.func57 rfl Tryd.ntmps57 rfl rfl (Has.nil _) ?_
  repeat (first | refine c_seq ?_ | (refine c_region (id := 0) ?_; refine sq qa ?_; refine l_nil ?_) | (refine c_region (id := 1) ?_; refine sq qa ?_; refine l_nil ?_) | (refine c_region (id := 2) ?_; refine sq qa ?_; refine l_nil ?_) | refine n_then ?_ | refine c_block ?_ | refine c_skip ?_ | refine n_block ?_ | refine c_exit ?_ | refine n_then_exit ?_ | refine n_block_eq ?_ | refine n_block_ne rfl ?_ | refine c_ret ?_ | refine n_then_ret ?_ | refine n_block_ret ?_ | refine c_cond_t rfl ?_ | refine c_cond_f rfl ?_ | refine r_succ ?_ )
  refine c_loop (γ := Nat × Bool) (fun z => [(4, .int .i64 z.1), (3, .bool z.2), (0, .slice a xs.length cap0)]) (fun _ => w.heap.size) (fun _ => []) (fun z => z.1 ≤ xs.length ∧ z.2 = decide (vl (xs.take z.1) ≤ vl (mstL z.1))) (fun z => xs.length - z.1) ⟨0, true⟩ ⟨by simp, by simp [vl]⟩ ⟨rfl, rfl, rfl, trivial⟩ rfl (by (repeat (first | exact List.nil_sublist _ | exact List.Sublist.slnil | apply List.Sublist.cons_cons | exact List.Sublist.refl _ | apply List.Sublist.cons))) ?_
  rintro ⟨i, lo⟩ ⟨hi, hlo⟩
  dsimp only at hi hlo ⊢
  by_cases h : i < xs.length
  · obtain ⟨g, o, rfl, hO⟩ := hs.get h
    have hz := nthI h
    rcases (by omega : i = 0 ∨ (0 < i ∧ i < 16) ∨ i = 16 ∨ 16 < i) with hc | hc | hc | hc
    · have hm : mst i = 250 := by unfold mst; rw [if_pos hc]
      have hxb : xs.getD i 0 < 256 := getD_lt hx (by omega) i
      rcases (by omega : xs.getD i 0 < 250 ∨ xs.getD i 0 = 250 ∨ 250 < xs.getD i 0) with hq | hq | hq
      · repeat (first | refine c_seq ?_ | (refine c_region (id := 3) ?_; refine sq qm ?_; refine sq qm ?_; refine sq qls ?_; refine sq (by first | exact dlsst | exact dlssf) ?_; refine l_nil ?_) | (refine c_region (id := 4) ?_; refine sq qm ?_; refine sq qadd64 ?_; refine sq qa ?_; refine l_nil ?_) | (refine c_region (id := 5) ?_; refine sq qa ?_; refine l_nil ?_) | (refine c_region (id := 6) ?_; refine sq qm ?_; refine sq (by first | exact deqlt | exact deqlf) ?_; refine l_nil ?_) | (refine c_region (id := 7) ?_; refine sq qa ?_; refine l_nil ?_) | (refine c_region (id := 8) ?_; refine sq qm ?_; refine sq (by first | exact deqlt | exact deqlf) ?_; refine l_nil ?_) | (refine c_region (id := 9) ?_; refine sq qa ?_; refine l_nil ?_) | (refine c_region (id := 10) ?_; refine sq qm ?_; refine sq (by first | exact dgtrt | exact dgtrf) ?_; refine l_nil ?_) | (refine c_region (id := 11) ?_; refine sq qa ?_; refine l_nil ?_) | (refine c_region (id := 12) ?_; refine sq qm ?_; refine sq qm ?_; refine sq (by exact q_indexAddr_sl (o' := o + i) rfl rfl (by omega) (by omega) (by omega)) ?_; refine sq ql ?_; refine sq qm ?_; refine sq (by first | exact dlsst | exact dlssf) ?_; refine sq qm ?_; (first | refine sk ?_ | refine skv ?_ | (refine st_want rfl rfl ?_; refine sq qm ?_)); (first | refine sk ?_ | refine skv ?_ | (refine st_want rfl rfl ?_; refine sq qm ?_)); (first | refine sk ?_ | refine skv ?_ | (refine st_want rfl rfl ?_; refine sq (by exact q_indexAddr_sl (o' := o + i) rfl rfl (by omega) (by omega) (by omega)) ?_)); (first | refine sk ?_ | refine skv ?_ | (refine st_want rfl rfl ?_; refine sq ql ?_)); (first | refine sk ?_ | refine skv ?_ | (refine st_want rfl rfl ?_; refine sq qm ?_)); (first | refine sk ?_ | refine skv ?_ | (refine st_want rfl rfl ?_; refine sq (by first | exact deqlt | exact deqlf) ?_)); (first | refine sk ?_ | refine skv ?_ | (refine st_want rfl rfl ?_; refine sq qm ?_)); (first | refine sk ?_ | refine skv ?_ | (refine st_want rfl rfl ?_; refine sq qm ?_)); (first | refine sk ?_ | refine skv ?_ | (refine st_want rfl rfl ?_; refine sq (by first | exact qpt | exact qpf) ?_)); refine sq (by first | exact qpt | exact qpf) ?_; refine sq qa ?_; refine l_nil ?_) | refine n_then ?_ | refine c_block ?_ | refine c_skip ?_ | refine n_block ?_ | refine c_exit ?_ | refine n_then_exit ?_ | refine n_block_eq ?_ | refine n_block_ne rfl ?_ | refine c_ret ?_ | refine n_then_ret ?_ | refine n_block_ret ?_ | refine c_cond_t rfl ?_ | refine c_cond_f rfl ?_ | refine r_succ ?_ )
        refine c_round ⟨i + 1, true⟩ ⟨by dsimp only; omega, less_lt hx hlo (by rw [hm]; omega)⟩ (by dsimp only; omega) ⟨rfl, rfl, rfl, trivial⟩ (by rfl) (by (repeat (first | exact List.nil_sublist _ | exact List.Sublist.slnil | apply List.Sublist.cons_cons | exact List.Sublist.refl _ | apply List.Sublist.cons)))
      · repeat (first | refine c_seq ?_ | (refine c_region (id := 3) ?_; refine sq qm ?_; refine sq qm ?_; refine sq qls ?_; refine sq (by first | exact dlsst | exact dlssf) ?_; refine l_nil ?_) | (refine c_region (id := 4) ?_; refine sq qm ?_; refine sq qadd64 ?_; refine sq qa ?_; refine l_nil ?_) | (refine c_region (id := 5) ?_; refine sq qa ?_; refine l_nil ?_) | (refine c_region (id := 6) ?_; refine sq qm ?_; refine sq (by first | exact deqlt | exact deqlf) ?_; refine l_nil ?_) | (refine c_region (id := 7) ?_; refine sq qa ?_; refine l_nil ?_) | (refine c_region (id := 8) ?_; refine sq qm ?_; refine sq (by first | exact deqlt | exact deqlf) ?_; refine l_nil ?_) | (refine c_region (id := 9) ?_; refine sq qa ?_; refine l_nil ?_) | (refine c_region (id := 10) ?_; refine sq qm ?_; refine sq (by first | exact dgtrt | exact dgtrf) ?_; refine l_nil ?_) | (refine c_region (id := 11) ?_; refine sq qa ?_; refine l_nil ?_) | (refine c_region (id := 12) ?_; refine sq qm ?_; refine sq qm ?_; refine sq (by exact q_indexAddr_sl (o' := o + i) rfl rfl (by omega) (by omega) (by omega)) ?_; refine sq ql ?_; refine sq qm ?_; refine sq (by first | exact dlsst | exact dlssf) ?_; refine sq qm ?_; (first | refine sk ?_ | refine skv ?_ | (refine st_want rfl rfl ?_; refine sq qm ?_)); (first | refine sk ?_ | refine skv ?_ | (refine st_want rfl rfl ?_; refine sq qm ?_)); (first | refine sk ?_ | refine skv ?_ | (refine st_want rfl rfl ?_; refine sq (by exact q_indexAddr_sl (o' := o + i) rfl rfl (by omega) (by omega) (by omega)) ?_)); (first | refine sk ?_ | refine skv ?_ | (refine st_want rfl rfl ?_; refine sq ql ?_)); (first | refine sk ?_ | refine skv ?_ | (refine st_want rfl rfl ?_; refine sq qm ?_)); (first | refine sk ?_ | refine skv ?_ | (refine st_want rfl rfl ?_; refine sq (by first | exact deqlt | exact deqlf) ?_)); (first | refine sk ?_ | refine skv ?_ | (refine st_want rfl rfl ?_; refine sq qm ?_)); (first | refine sk ?_ | refine skv ?_ | (refine st_want rfl rfl ?_; refine sq qm ?_)); (first | refine sk ?_ | refine skv ?_ | (refine st_want rfl rfl ?_; refine sq (by first | exact qpt | exact qpf) ?_)); refine sq (by first | exact qpt | exact qpf) ?_; refine sq qa ?_; refine l_nil ?_) | refine n_then ?_ | refine c_block ?_ | refine c_skip ?_ | refine n_block ?_ | refine c_exit ?_ | refine n_then_exit ?_ | refine n_block_eq ?_ | refine n_block_ne rfl ?_ | refine c_ret ?_ | refine n_then_ret ?_ | refine n_block_ret ?_ | refine c_cond_t rfl ?_ | refine c_cond_f rfl ?_ | refine r_succ ?_ )
        refine c_round ⟨i + 1, lo⟩ ⟨by dsimp only; omega, less_eq hx hlo (by rw [hm]; omega)⟩ (by dsimp only; omega) ⟨rfl, rfl, rfl, trivial⟩ (by rfl) (by (repeat (first | exact List.nil_sublist _ | exact List.Sublist.slnil | apply List.Sublist.cons_cons | exact List.Sublist.refl _ | apply List.Sublist.cons)))
      · repeat (first | refine c_seq ?_ | (refine c_region (id := 3) ?_; refine sq qm ?_; refine sq qm ?_; refine sq qls ?_; refine sq (by first | exact dlsst | exact dlssf) ?_; refine l_nil ?_) | (refine c_region (id := 4) ?_; refine sq qm ?_; refine sq qadd64 ?_; refine sq qa ?_; refine l_nil ?_) | (refine c_region (id := 5) ?_; refine sq qa ?_; refine l_nil ?_) | (refine c_region (id := 6) ?_; refine sq qm ?_; refine sq (by first | exact deqlt | exact deqlf) ?_; refine l_nil ?_) | (refine c_region (id := 7) ?_; refine sq qa ?_; refine l_nil ?_) | (refine c_region (id := 8) ?_; refine sq qm ?_; refine sq (by first | exact deqlt | exact deqlf) ?_; refine l_nil ?_) | (refine c_region (id := 9) ?_; refine sq qa ?_; refine l_nil ?_) | (refine c_region (id := 10) ?_; refine sq qm ?_; refine sq (by first | exact dgtrt | exact dgtrf) ?_; refine l_nil ?_) | (refine c_region (id := 11) ?_; refine sq qa ?_; refine l_nil ?_) | (refine c_region (id := 12) ?_; refine sq qm ?_; refine sq qm ?_; refine sq (by exact q_indexAddr_sl (o' := o + i) rfl rfl (by omega) (by omega) (by omega)) ?_; refine sq ql ?_; refine sq qm ?_; refine sq (by first | exact dlsst | exact dlssf) ?_; refine sq qm ?_; (first | refine sk ?_ | refine skv ?_ | (refine st_want rfl rfl ?_; refine sq qm ?_)); (first | refine sk ?_ | refine skv ?_ | (refine st_want rfl rfl ?_; refine sq qm ?_)); (first | refine sk ?_ | refine skv ?_ | (refine st_want rfl rfl ?_; refine sq (by exact q_indexAddr_sl (o' := o + i) rfl rfl (by omega) (by omega) (by omega)) ?_)); (first | refine sk ?_ | refine skv ?_ | (refine st_want rfl rfl ?_; refine sq ql ?_)); (first | refine sk ?_ | refine skv ?_ | (refine st_want rfl rfl ?_; refine sq qm ?_)); (first | refine sk ?_ | refine skv ?_ | (refine st_want rfl rfl ?_; refine sq (by first | exact deqlt | exact deqlf) ?_)); (first | refine sk ?_ | refine skv ?_ | (refine st_want rfl rfl ?_; refine sq qm ?_)); (first | refine sk ?_ | refine skv ?_ | (refine st_want rfl rfl ?_; refine sq qm ?_)); (first | refine sk ?_ | refine skv ?_ | (refine st_want rfl rfl ?_; refine sq (by first | exact qpt | exact qpf) ?_)); refine sq (by first | exact qpt | exact qpf) ?_; refine sq qa ?_; refine l_nil ?_) | refine n_then ?_ | refine c_block ?_ | refine c_skip ?_ | refine n_block ?_ | refine c_exit ?_ | refine n_then_exit ?_ | refine n_block_eq ?_ | refine n_block_ne rfl ?_ | refine c_ret ?_ | refine n_then_ret ?_ | refine n_block_ret ?_ | refine c_cond_t rfl ?_ | refine c_cond_f rfl ?_ | refine r_succ ?_ )
        refine c_round ⟨i + 1, false⟩ ⟨by dsimp only; omega, less_gt hx hlo (by rw [hm]; omega)⟩ (by dsimp only; omega) ⟨rfl, rfl, rfl, trivial⟩ (by rfl) (by (repeat (first | exact List.nil_sublist _ | exact List.Sublist.slnil | apply List.Sublist.cons_cons | exact List.Sublist.refl _ | apply List.Sublist.cons)))
    · have hm : mst i = 255 := by unfold mst; rw [if_neg (by omega), if_pos (by omega)]
      have hxb : xs.getD i 0 < 256 := getD_lt hx (by omega) i
      rcases (by omega : xs.getD i 0 < 255 ∨ xs.getD i 0 = 255 ∨ 255 < xs.getD i 0) with hq | hq | hq
      · repeat (first | refine c_seq ?_ | (refine c_region (id := 3) ?_; refine sq qm ?_; refine sq qm ?_; refine sq qls ?_; refine sq (by first | exact dlsst | exact dlssf) ?_; refine l_nil ?_) | (refine c_region (id := 4) ?_; refine sq qm ?_; refine sq qadd64 ?_; refine sq qa ?_; refine l_nil ?_) | (refine c_region (id := 5) ?_; refine sq qa ?_; refine l_nil ?_) | (refine c_region (id := 6) ?_; refine sq qm ?_; refine sq (by first | exact deqlt | exact deqlf) ?_; refine l_nil ?_) | (refine c_region (id := 7) ?_; refine sq qa ?_; refine l_nil ?_) | (refine c_region (id := 8) ?_; refine sq qm ?_; refine sq (by first | exact deqlt | exact deqlf) ?_; refine l_nil ?_) | (refine c_region (id := 9) ?_; refine sq qa ?_; refine l_nil ?_) | (refine c_region (id := 10) ?_; refine sq qm ?_; refine sq (by first | exact dgtrt | exact dgtrf) ?_; refine l_nil ?_) | (refine c_region (id := 11) ?_; refine sq qa ?_; refine l_nil ?_) | (refine c_region (id := 12) ?_; refine sq qm ?_; refine sq qm ?_; refine sq (by exact q_indexAddr_sl (o' := o + i) rfl rfl (by omega) (by omega) (by omega)) ?_; refine sq ql ?_; refine sq qm ?_; refine sq (by first | exact dlsst | exact dlssf) ?_; refine sq qm ?_; (first | refine sk ?_ | refine skv ?_ | (refine st_want rfl rfl ?_; refine sq qm ?_)); (first | refine sk ?_ | refine skv ?_ | (refine st_want rfl rfl ?_; refine sq qm ?_)); (first | refine sk ?_ | refine skv ?_ | (refine st_want rfl rfl ?_; refine sq (by exact q_indexAddr_sl (o' := o + i) rfl rfl (by omega) (by omega) (by omega)) ?_)); (first | refine sk ?_ | refine skv ?_ | (refine st_want rfl rfl ?_; refine sq ql ?_)); (first | refine sk ?_ | refine skv ?_ | (refine st_want rfl rfl ?_; refine sq qm ?_)); (first | refine sk ?_ | refine skv ?_ | (refine st_want rfl rfl ?_; refine sq (by first | exact deqlt | exact deqlf) ?_)); (first | refine sk ?_ | refine skv ?_ | (refine st_want rfl rfl ?_; refine sq qm ?_)); (first | refine sk ?_ | refine skv ?_ | (refine st_want rfl rfl ?_; refine sq qm ?_)); (first | refine sk ?_ | refine skv ?_ | (refine st_want rfl rfl ?_; refine sq (by first | exact qpt | exact qpf) ?_)); refine sq (by first | exact qpt | exact qpf) ?_; refine sq qa ?_; refine l_nil ?_) | refine n_then ?_ | refine c_block ?_ | refine c_skip ?_ | refine n_block ?_ | refine c_exit ?_ | refine n_then_exit ?_ | refine n_block_eq ?_ | refine n_block_ne rfl ?_ | refine c_ret ?_ | refine n_then_ret ?_ | refine n_block_ret ?_ | refine c_cond_t rfl ?_ | refine c_cond_f rfl ?_ | refine r_succ ?_ )
        refine c_round ⟨i + 1, true⟩ ⟨by dsimp only; omega, less_lt hx hlo (by rw [hm]; omega)⟩ (by dsimp only; omega) ⟨rfl, rfl, rfl, trivial⟩ (by rfl) (by (repeat (first | exact List.nil_sublist _ | exact List.Sublist.slnil | apply List.Sublist.cons_cons | exact List.Sublist.refl _ | apply List.Sublist.cons)))
      · repeat (first | refine c_seq ?_ | (refine c_region (id := 3) ?_; refine sq qm ?_; refine sq qm ?_; refine sq qls ?_; refine sq (by first | exact dlsst | exact dlssf) ?_; refine l_nil ?_) | (refine c_region (id := 4) ?_; refine sq qm ?_; refine sq qadd64 ?_; refine sq qa ?_; refine l_nil ?_) | (refine c_region (id := 5) ?_; refine sq qa ?_; refine l_nil ?_) | (refine c_region (id := 6) ?_; refine sq qm ?_; refine sq (by first | exact deqlt | exact deqlf) ?_; refine l_nil ?_) | (refine c_region (id := 7) ?_; refine sq qa ?_; refine l_nil ?_) | (refine c_region (id := 8) ?_; refine sq qm ?_; refine sq (by first | exact deqlt | exact deqlf) ?_; refine l_nil ?_) | (refine c_region (id := 9) ?_; refine sq qa ?_; refine l_nil ?_) | (refine c_region (id := 10) ?_; refine sq qm ?_; refine sq (by first | exact dgtrt | exact dgtrf) ?_; refine l_nil ?_) | (refine c_region (id := 11) ?_; refine sq qa ?_; refine l_nil ?_) | (refine c_region (id := 12) ?_; refine sq qm ?_; refine sq qm ?_; refine sq (by exact q_indexAddr_sl (o' := o + i) rfl rfl (by omega) (by omega) (by omega)) ?_; refine sq ql ?_; refine sq qm ?_; refine sq (by first | exact dlsst | exact dlssf) ?_; refine sq qm ?_; (first | refine sk ?_ | refine skv ?_ | (refine st_want rfl rfl ?_; refine sq qm ?_)); (first | refine sk ?_ | refine skv ?_ | (refine st_want rfl rfl ?_; refine sq qm ?_)); (first | refine sk ?_ | refine skv ?_ | (refine st_want rfl rfl ?_; refine sq (by exact q_indexAddr_sl (o' := o + i) rfl rfl (by omega) (by omega) (by omega)) ?_)); (first | refine sk ?_ | refine skv ?_ | (refine st_want rfl rfl ?_; refine sq ql ?_)); (first | refine sk ?_ | refine skv ?_ | (refine st_want rfl rfl ?_; refine sq qm ?_)); (first | refine sk ?_ | refine skv ?_ | (refine st_want rfl rfl ?_; refine sq (by first | exact deqlt | exact deqlf) ?_)); (first | refine sk ?_ | refine skv ?_ | (refine st_want rfl rfl ?_; refine sq qm ?_)); (first | refine sk ?_ | refine skv ?_ | (refine st_want rfl rfl ?_; refine sq qm ?_)); (first | refine sk ?_ | refine skv ?_ | (refine st_want rfl rfl ?_; refine sq (by first | exact qpt | exact qpf) ?_)); refine sq (by first | exact qpt | exact qpf) ?_; refine sq qa ?_; refine l_nil ?_) | refine n_then ?_ | refine c_block ?_ | refine c_skip ?_ | refine n_block ?_ | refine c_exit ?_ | refine n_then_exit ?_ | refine n_block_eq ?_ | refine n_block_ne rfl ?_ | refine c_ret ?_ | refine n_then_ret ?_ | refine n_block_ret ?_ | refine c_cond_t rfl ?_ | refine c_cond_f rfl ?_ | refine r_succ ?_ )
        refine c_round ⟨i + 1, lo⟩ ⟨by dsimp only; omega, less_eq hx hlo (by rw [hm]; omega)⟩ (by dsimp only; omega) ⟨rfl, rfl, rfl, trivial⟩ (by rfl) (by (repeat (first | exact List.nil_sublist _ | exact List.Sublist.slnil | apply List.Sublist.cons_cons | exact List.Sublist.refl _ | apply List.Sublist.cons)))
      · omega
    · have hm : mst i = 3 := by unfold mst; rw [if_neg (by omega), if_neg (by omega), if_pos hc]
      have hxb : xs.getD i 0 < 256 := getD_lt hx (by omega) i
      rcases (by omega : xs.getD i 0 < 3 ∨ xs.getD i 0 = 3 ∨ 3 < xs.getD i 0) with hq | hq | hq
      · repeat (first | refine c_seq ?_ | (refine c_region (id := 3) ?_; refine sq qm ?_; refine sq qm ?_; refine sq qls ?_; refine sq (by first | exact dlsst | exact dlssf) ?_; refine l_nil ?_) | (refine c_region (id := 4) ?_; refine sq qm ?_; refine sq qadd64 ?_; refine sq qa ?_; refine l_nil ?_) | (refine c_region (id := 5) ?_; refine sq qa ?_; refine l_nil ?_) | (refine c_region (id := 6) ?_; refine sq qm ?_; refine sq (by first | exact deqlt | exact deqlf) ?_; refine l_nil ?_) | (refine c_region (id := 7) ?_; refine sq qa ?_; refine l_nil ?_) | (refine c_region (id := 8) ?_; refine sq qm ?_; refine sq (by first | exact deqlt | exact deqlf) ?_; refine l_nil ?_) | (refine c_region (id := 9) ?_; refine sq qa ?_; refine l_nil ?_) | (refine c_region (id := 10) ?_; refine sq qm ?_; refine sq (by first | exact dgtrt | exact dgtrf) ?_; refine l_nil ?_) | (refine c_region (id := 11) ?_; refine sq qa ?_; refine l_nil ?_) | (refine c_region (id := 12) ?_; refine sq qm ?_; refine sq qm ?_; refine sq (by exact q_indexAddr_sl (o' := o + i) rfl rfl (by omega) (by omega) (by omega)) ?_; refine sq ql ?_; refine sq qm ?_; refine sq (by first | exact dlsst | exact dlssf) ?_; refine sq qm ?_; (first | refine sk ?_ | refine skv ?_ | (refine st_want rfl rfl ?_; refine sq qm ?_)); (first | refine sk ?_ | refine skv ?_ | (refine st_want rfl rfl ?_; refine sq qm ?_)); (first | refine sk ?_ | refine skv ?_ | (refine st_want rfl rfl ?_; refine sq (by exact q_indexAddr_sl (o' := o + i) rfl rfl (by omega) (by omega) (by omega)) ?_)); (first | refine sk ?_ | refine skv ?_ | (refine st_want rfl rfl ?_; refine sq ql ?_)); (first | refine sk ?_ | refine skv ?_ | (refine st_want rfl rfl ?_; refine sq qm ?_)); (first | refine sk ?_ | refine skv ?_ | (refine st_want rfl rfl ?_; refine sq (by first | exact deqlt | exact deqlf) ?_)); (first | refine sk ?_ | refine skv ?_ | (refine st_want rfl rfl ?_; refine sq qm ?_)); (first | refine sk ?_ | refine skv ?_ | (refine st_want rfl rfl ?_; refine sq qm ?_)); (first | refine sk ?_ | refine skv ?_ | (refine st_want rfl rfl ?_; refine sq (by first | exact qpt | exact qpf) ?_)); refine sq (by first | exact qpt | exact qpf) ?_; refine sq qa ?_; refine l_nil ?_) | refine n_then ?_ | refine c_block ?_ | refine c_skip ?_ | refine n_block ?_ | refine c_exit ?_ | refine n_then_exit ?_ | refine n_block_eq ?_ | refine n_block_ne rfl ?_ | refine c_ret ?_ | refine n_then_ret ?_ | refine n_block_ret ?_ | refine c_cond_t rfl ?_ | refine c_cond_f rfl ?_ | refine r_succ ?_ )
        refine c_round ⟨i + 1, true⟩ ⟨by dsimp only; omega, less_lt hx hlo (by rw [hm]; omega)⟩ (by dsimp only; omega) ⟨rfl, rfl, rfl, trivial⟩ (by rfl) (by (repeat (first | exact List.nil_sublist _ | exact List.Sublist.slnil | apply List.Sublist.cons_cons | exact List.Sublist.refl _ | apply List.Sublist.cons)))
      · repeat (first | refine c_seq ?_ | (refine c_region (id := 3) ?_; refine sq qm ?_; refine sq qm ?_; refine sq qls ?_; refine sq (by first | exact dlsst | exact dlssf) ?_; refine l_nil ?_) | (refine c_region (id := 4) ?_; refine sq qm ?_; refine sq qadd64 ?_; refine sq qa ?_; refine l_nil ?_) | (refine c_region (id := 5) ?_; refine sq qa ?_; refine l_nil ?_) | (refine c_region (id := 6) ?_; refine sq qm ?_; refine sq (by first | exact deqlt | exact deqlf) ?_; refine l_nil ?_) | (refine c_region (id := 7) ?_; refine sq qa ?_; refine l_nil ?_) | (refine c_region (id := 8) ?_; refine sq qm ?_; refine sq (by first | exact deqlt | exact deqlf) ?_; refine l_nil ?_) | (refine c_region (id := 9) ?_; refine sq qa ?_; refine l_nil ?_) | (refine c_region (id := 10) ?_; refine sq qm ?_; refine sq (by first | exact dgtrt | exact dgtrf) ?_; refine l_nil ?_) | (refine c_region (id := 11) ?_; refine sq qa ?_; refine l_nil ?_) | (refine c_region (id := 12) ?_; refine sq qm ?_; refine sq qm ?_; refine sq (by exact q_indexAddr_sl (o' := o + i) rfl rfl (by omega) (by omega) (by omega)) ?_; refine sq ql ?_; refine sq qm ?_; refine sq (by first | exact dlsst | exact dlssf) ?_; refine sq qm ?_; (first | refine sk ?_ | refine skv ?_ | (refine st_want rfl rfl ?_; refine sq qm ?_)); (first | refine sk ?_ | refine skv ?_ | (refine st_want rfl rfl ?_; refine sq qm ?_)); (first | refine sk ?_ | refine skv ?_ | (refine st_want rfl rfl ?_; refine sq (by exact q_indexAddr_sl (o' := o + i) rfl rfl (by omega) (by omega) (by omega)) ?_)); (first | refine sk ?_ | refine skv ?_ | (refine st_want rfl rfl ?_; refine sq ql ?_)); (first | refine sk ?_ | refine skv ?_ | (refine st_want rfl rfl ?_; refine sq qm ?_)); (first | refine sk ?_ | refine skv ?_ | (refine st_want rfl rfl ?_; refine sq (by first | exact deqlt | exact deqlf) ?_)); (first | refine sk ?_ | refine skv ?_ | (refine st_want rfl rfl ?_; refine sq qm ?_)); (first | refine sk ?_ | refine skv ?_ | (refine st_want rfl rfl ?_; refine sq qm ?_)); (first | refine sk ?_ | refine skv ?_ | (refine st_want rfl rfl ?_; refine sq (by first | exact qpt | exact qpf) ?_)); refine sq (by first | exact qpt | exact qpf) ?_; refine sq qa ?_; refine l_nil ?_) | refine n_then ?_ | refine c_block ?_ | refine c_skip ?_ | refine n_block ?_ | refine c_exit ?_ | refine n_then_exit ?_ | refine n_block_eq ?_ | refine n_block_ne rfl ?_ | refine c_ret ?_ | refine n_then_ret ?_ | refine n_block_ret ?_ | refine c_cond_t rfl ?_ | refine c_cond_f rfl ?_ | refine r_succ ?_ )
        refine c_round ⟨i + 1, lo⟩ ⟨by dsimp only; omega, less_eq hx hlo (by rw [hm]; omega)⟩ (by dsimp only; omega) ⟨rfl, rfl, rfl, trivial⟩ (by rfl) (by (repeat (first | exact List.nil_sublist _ | exact List.Sublist.slnil | apply List.Sublist.cons_cons | exact List.Sublist.refl _ | apply List.Sublist.cons)))
      · repeat (first | refine c_seq ?_ | (refine c_region (id := 3) ?_; refine sq qm ?_; refine sq qm ?_; refine sq qls ?_; refine sq (by first | exact dlsst | exact dlssf) ?_; refine l_nil ?_) | (refine c_region (id := 4) ?_; refine sq qm ?_; refine sq qadd64 ?_; refine sq qa ?_; refine l_nil ?_) | (refine c_region (id := 5) ?_; refine sq qa ?_; refine l_nil ?_) | (refine c_region (id := 6) ?_; refine sq qm ?_; refine sq (by first | exact deqlt | exact deqlf) ?_; refine l_nil ?_) | (refine c_region (id := 7) ?_; refine sq qa ?_; refine l_nil ?_) | (refine c_region (id := 8) ?_; refine sq qm ?_; refine sq (by first | exact deqlt | exact deqlf) ?_; refine l_nil ?_) | (refine c_region (id := 9) ?_; refine sq qa ?_; refine l_nil ?_) | (refine c_region (id := 10) ?_; refine sq qm ?_; refine sq (by first | exact dgtrt | exact dgtrf) ?_; refine l_nil ?_) | (refine c_region (id := 11) ?_; refine sq qa ?_; refine l_nil ?_) | (refine c_region (id := 12) ?_; refine sq qm ?_; refine sq qm ?_; refine sq (by exact q_indexAddr_sl (o' := o + i) rfl rfl (by omega) (by omega) (by omega)) ?_; refine sq ql ?_; refine sq qm ?_; refine sq (by first | exact dlsst | exact dlssf) ?_; refine sq qm ?_; (first | refine sk ?_ | refine skv ?_ | (refine st_want rfl rfl ?_; refine sq qm ?_)); (first | refine sk ?_ | refine skv ?_ | (refine st_want rfl rfl ?_; refine sq qm ?_)); (first | refine sk ?_ | refine skv ?_ | (refine st_want rfl rfl ?_; refine sq (by exact q_indexAddr_sl (o' := o + i) rfl rfl (by omega) (by omega) (by omega)) ?_)); (first | refine sk ?_ | refine skv ?_ | (refine st_want rfl rfl ?_; refine sq ql ?_)); (first | refine sk ?_ | refine skv ?_ | (refine st_want rfl rfl ?_; refine sq qm ?_)); (first | refine sk ?_ | refine skv ?_ | (refine st_want rfl rfl ?_; refine sq (by first | exact deqlt | exact deqlf) ?_)); (first | refine sk ?_ | refine skv ?_ | (refine st_want rfl rfl ?_; refine sq qm ?_)); (first | refine sk ?_ | refine skv ?_ | (refine st_want rfl rfl ?_; refine sq qm ?_)); (first | refine sk ?_ | refine skv ?_ | (refine st_want rfl rfl ?_; refine sq (by first | exact qpt | exact qpf) ?_)); refine sq (by first | exact qpt | exact qpf) ?_; refine sq qa ?_; refine l_nil ?_) | refine n_then ?_ | refine c_block ?_ | refine c_skip ?_ | refine n_block ?_ | refine c_exit ?_ | refine n_then_exit ?_ | refine n_block_eq ?_ | refine n_block_ne rfl ?_ | refine c_ret ?_ | refine n_then_ret ?_ | refine n_block_ret ?_ | refine c_cond_t rfl ?_ | refine c_cond_f rfl ?_ | refine r_succ ?_ )
        refine c_round ⟨i + 1, false⟩ ⟨by dsimp only; omega, less_gt hx hlo (by rw [hm]; omega)⟩ (by dsimp only; omega) ⟨rfl, rfl, rfl, trivial⟩ (by rfl) (by (repeat (first | exact List.nil_sublist _ | exact List.Sublist.slnil | apply List.Sublist.cons_cons | exact List.Sublist.refl _ | apply List.Sublist.cons)))
    · have hm : mst i = 0 := by unfold mst; rw [if_neg (by omega), if_neg (by omega), if_neg (by omega)]
      have hxb : xs.getD i 0 < 256 := getD_lt hx (by omega) i
      rcases (by omega : xs.getD i 0 < 0 ∨ xs.getD i 0 = 0 ∨ 0 < xs.getD i 0) with hq | hq | hq
      · omega
      · repeat (first | refine c_seq ?_ | (refine c_region (id := 3) ?_; refine sq qm ?_; refine sq qm ?_; refine sq qls ?_; refine sq (by first | exact dlsst | exact dlssf) ?_; refine l_nil ?_) | (refine c_region (id := 4) ?_; refine sq qm ?_; refine sq qadd64 ?_; refine sq qa ?_; refine l_nil ?_) | (refine c_region (id := 5) ?_; refine sq qa ?_; refine l_nil ?_) | (refine c_region (id := 6) ?_; refine sq qm ?_; refine sq (by first | exact deqlt | exact deqlf) ?_; refine l_nil ?_) | (refine c_region (id := 7) ?_; refine sq qa ?_; refine l_nil ?_) | (refine c_region (id := 8) ?_; refine sq qm ?_; refine sq (by first | exact deqlt | exact deqlf) ?_; refine l_nil ?_) | (refine c_region (id := 9) ?_; refine sq qa ?_; refine l_nil ?_) | (refine c_region (id := 10) ?_; refine sq qm ?_; refine sq (by first | exact dgtrt | exact dgtrf) ?_; refine l_nil ?_) | (refine c_region (id := 11) ?_; refine sq qa ?_; refine l_nil ?_) | (refine c_region (id := 12) ?_; refine sq qm ?_; refine sq qm ?_; refine sq (by exact q_indexAddr_sl (o' := o + i) rfl rfl (by omega) (by omega) (by omega)) ?_; refine sq ql ?_; refine sq qm ?_; refine sq (by first | exact dlsst | exact dlssf) ?_; refine sq qm ?_; (first | refine sk ?_ | refine skv ?_ | (refine st_want rfl rfl ?_; refine sq qm ?_)); (first | refine sk ?_ | refine skv ?_ | (refine st_want rfl rfl ?_; refine sq qm ?_)); (first | refine sk ?_ | refine skv ?_ | (refine st_want rfl rfl ?_; refine sq (by exact q_indexAddr_sl (o' := o + i) rfl rfl (by omega) (by omega) (by omega)) ?_)); (first | refine sk ?_ | refine skv ?_ | (refine st_want rfl rfl ?_; refine sq ql ?_)); (first | refine sk ?_ | refine skv ?_ | (refine st_want rfl rfl ?_; refine sq qm ?_)); (first | refine sk ?_ | refine skv ?_ | (refine st_want rfl rfl ?_; refine sq (by first | exact deqlt | exact deqlf) ?_)); (first | refine sk ?_ | refine skv ?_ | (refine st_want rfl rfl ?_; refine sq qm ?_)); (first | refine sk ?_ | refine skv ?_ | (refine st_want rfl rfl ?_; refine sq qm ?_)); (first | refine sk ?_ | refine skv ?_ | (refine st_want rfl rfl ?_; refine sq (by first | exact qpt | exact qpf) ?_)); refine sq (by first | exact qpt | exact qpf) ?_; refine sq qa ?_; refine l_nil ?_) | refine n_then ?_ | refine c_block ?_ | refine c_skip ?_ | refine n_block ?_ | refine c_exit ?_ | refine n_then_exit ?_ | refine n_block_eq ?_ | refine n_block_ne rfl ?_ | refine c_ret ?_ | refine n_then_ret ?_ | refine n_block_ret ?_ | refine c_cond_t rfl ?_ | refine c_cond_f rfl ?_ | refine r_succ ?_ )
        refine c_round ⟨i + 1, lo⟩ ⟨by dsimp only; omega, less_eq hx hlo (by rw [hm]; omega)⟩ (by dsimp only; omega) ⟨rfl, rfl, rfl, trivial⟩ (by rfl) (by (repeat (first | exact List.nil_sublist _ | exact List.Sublist.slnil | apply List.Sublist.cons_cons | exact List.Sublist.refl _ | apply List.Sublist.cons)))
      · repeat (first | refine c_seq ?_ | (refine c_region (id := 3) ?_; refine sq qm ?_; refine sq qm ?_; refine sq qls ?_; refine sq (by first | exact dlsst | exact dlssf) ?_; refine l_nil ?_) | (refine c_region (id := 4) ?_; refine sq qm ?_; refine sq qadd64 ?_; refine sq qa ?_; refine l_nil ?_) | (refine c_region (id := 5) ?_; refine sq qa ?_; refine l_nil ?_) | (refine c_region (id := 6) ?_; refine sq qm ?_; refine sq (by first | exact deqlt | exact deqlf) ?_; refine l_nil ?_) | (refine c_region (id := 7) ?_; refine sq qa ?_; refine l_nil ?_) | (refine c_region (id := 8) ?_; refine sq qm ?_; refine sq (by first | exact deqlt | exact deqlf) ?_; refine l_nil ?_) | (refine c_region (id := 9) ?_; refine sq qa ?_; refine l_nil ?_) | (refine c_region (id := 10) ?_; refine sq qm ?_; refine sq (by first | exact dgtrt | exact dgtrf) ?_; refine l_nil ?_) | (refine c_region (id := 11) ?_; refine sq qa ?_; refine l_nil ?_) | (refine c_region (id := 12) ?_; refine sq qm ?_; refine sq qm ?_; refine sq (by exact q_indexAddr_sl (o' := o + i) rfl rfl (by omega) (by omega) (by omega)) ?_; refine sq ql ?_; refine sq qm ?_; refine sq (by first | exact dlsst | exact dlssf) ?_; refine sq qm ?_; (first | refine sk ?_ | refine skv ?_ | (refine st_want rfl rfl ?_; refine sq qm ?_)); (first | refine sk ?_ | refine skv ?_ | (refine st_want rfl rfl ?_; refine sq qm ?_)); (first | refine sk ?_ | refine skv ?_ | (refine st_want rfl rfl ?_; refine sq (by exact q_indexAddr_sl (o' := o + i) rfl rfl (by omega) (by omega) (by omega)) ?_)); (first | refine sk ?_ | refine skv ?_ | (refine st_want rfl rfl ?_; refine sq ql ?_)); (first | refine sk ?_ | refine skv ?_ | (refine st_want rfl rfl ?_; refine sq qm ?_)); (first | refine sk ?_ | refine skv ?_ | (refine st_want rfl rfl ?_; refine sq (by first | exact deqlt | exact deqlf) ?_)); (first | refine sk ?_ | refine skv ?_ | (refine st_want rfl rfl ?_; refine sq qm ?_)); (first | refine sk ?_ | refine skv ?_ | (refine st_want rfl rfl ?_; refine sq qm ?_)); (first | refine sk ?_ | refine skv ?_ | (refine st_want rfl rfl ?_; refine sq (by first | exact qpt | exact qpf) ?_)); refine sq (by first | exact qpt | exact qpf) ?_; refine sq qa ?_; refine l_nil ?_) | refine n_then ?_ | refine c_block ?_ | refine c_skip ?_ | refine n_block ?_ | refine c_exit ?_ | refine n_then_exit ?_ | refine n_block_eq ?_ | refine n_block_ne rfl ?_ | refine c_ret ?_ | refine n_then_ret ?_ | refine n_block_ret ?_ | refine c_cond_t rfl ?_ | refine c_cond_f rfl ?_ | refine r_succ ?_ )
        refine c_round ⟨i + 1, false⟩ ⟨by dsimp only; omega, less_gt hx hlo (by rw [hm]; omega)⟩ (by dsimp only; omega) ⟨rfl, rfl, rfl, trivial⟩ (by rfl) (by (repeat (first | exact List.nil_sublist _ | exact List.Sublist.slnil | apply List.Sublist.cons_cons | exact List.Sublist.refl _ | apply List.Sublist.cons)))
  · obtain rfl : i = xs.length := by omega
    repeat (first | refine c_seq ?_ | (refine c_region (id := 3) ?_; refine sq qm ?_; refine sq qm ?_; refine sq qls ?_; refine sq (by first | exact dlsst | exact dlssf) ?_; refine l_nil ?_) | (refine c_region (id := 13) ?_; refine sq qm ?_; refine sq qa ?_; refine l_nil ?_) | refine n_then ?_ | refine c_block ?_ | refine c_skip ?_ | refine n_block ?_ | refine c_exit ?_ | refine n_then_exit ?_ | refine n_block_eq ?_ | refine n_block_ne rfl ?_ | refine c_ret ?_ | refine n_then_ret ?_ | refine n_block_ret ?_ | refine c_cond_t rfl ?_ | refine c_cond_f rfl ?_ | refine r_succ ?_ )
    have hv : lo = decide (vl xs < P130) := by
      rw [hlo, List.take_of_length_le (Nat.le_refl _)]
      have := mstL_17 (xs.length - 17)
      rw [show 17 + (xs.length - 17) = xs.length by omega] at this
      rw [this]
      have : P130 ≠ 0 := by decide
      rw [Bool.eq_iff_iff]; simp only [decide_eq_true_eq]; omega
    (first | apply r_ret () | apply r_end ()); exact rfl; exact rfl; exact (.tmp rfl .nil); exact (congrArg Value.bool hv); exact (List.nil_sublist _); exact new_nil; exact trivial
end Go.Proofs.YteopejjlhmghbaaDoor
namespace Go.Proofs.YteopejjlhmghbaaDoor
open Go Go.RowKit
set_option linter.unusedVariables false
set_option linter.unusedSimpArgs false
def lowL (xs : List Nat) (i : Nat) : List Nat := if i ≤ 16 then xs.take i else xs.take 16 ++ [xs.getD 16 0 % 4]
structure ResI (h0 : Nat) (xs : List Nat) (z : Nat × Option Addr × Nat × List Nat × Option Addr × Nat × List Nat × Nat) : Prop where
  i : z.1 ≤ xs.length
  lo : z.2.2.2.1 = lowL xs z.1
  hl : z.2.2.2.2.2.2.1.length = z.1 - 16
  hd : ∀ d ∈ z.2.2.2.2.2.2.1, d < 256
  hv : 4 * vl z.2.2.2.2.2.2.1 + xs.getD 16 0 % 4 = vl ((xs.drop 16).take (z.1 - 16)) + 256 ^ (z.1 - 16) * (xs.getD (16 + (z.1 - 16)) 0 % 4)
  ol : OS [] h0 z.2.1 z.2.2.1 (min z.1 17)
  oh : OS [] h0 z.2.2.2.2.1 z.2.2.2.2.2.1 (z.1 - 16)
  m : h0 ≤ z.2.2.2.2.2.2.2
theorem lowL_len (xs : List Nat) (i : Nat) (h : i ≤ xs.length) : (lowL xs i).length = min i 17 := by
  unfold lowL
  split <;> simp <;> omega
theorem getD_drop (xs : List Nat) (a i : Nat) : (xs.drop a).getD i 0 = xs.getD (a + i) 0 := by
  rw [List.getD_eq_getElem?_getD, List.getElem?_drop, List.getD_eq_getElem?_getD]
theorem hiStep {xs zh : List Nat} {q : Nat} (hx : ∀ x ∈ xs, x < 256) (hl : zh.length = q) (hd : ∀ d ∈ zh, d < 256) (hv : 4 * vl zh + xs.getD 16 0 % 4 = vl ((xs.drop 16).take q) + 256 ^ q * (xs.getD (16 + q) 0 % 4)) :
    (∀ d ∈ zh ++ [xs.getD (16 + q) 0 / 4 + xs.getD (16 + q + 1) 0 % 4 * 64], d < 256) ∧ 4 * vl (zh ++ [xs.getD (16 + q) 0 / 4 + xs.getD (16 + q + 1) 0 % 4 * 64]) + xs.getD 16 0 % 4 = vl ((xs.drop 16).take (q + 1)) + 256 ^ (q + 1) * (xs.getD (16 + q + 1) 0 % 4) := by
  have h1 := getD_lt hx (by omega) (16 + q)
  refine ⟨fun d h => ?_, ?_⟩
  · rcases List.mem_append.1 h with h | h
    · exact hd d h
    · simp only [List.mem_singleton] at h; omega
  · rw [vl_snoc, vl_take, getD_drop, hl, Nat.mul_add, Nat.pow_succ]
    have e : 4 * (256 ^ q * (xs.getD (16 + q) 0 / 4 + xs.getD (16 + q + 1) 0 % 4 * 64)) + 256 ^ q * (xs.getD (16 + q) 0 % 4) = 256 ^ q * xs.getD (16 + q) 0 + 256 ^ q * 256 * (xs.getD (16 + q + 1) 0 % 4) := by
      rw [Nat.mul_left_comm, ← Nat.mul_add, Nat.mul_assoc, ← Nat.mul_add]
      congr 1
      omega
    omega
section
variable {h0 : Nat} {xs zl zh : List Nat} {i cap3 cap4 cap5 cap6 mm m' : Nat} {b3 b4 b5 b6 : Option Addr}
theorem resA (hx : ∀ x ∈ xs, x < 256) (hI : ResI h0 xs ⟨i, b5, cap5, zl, b6, cap6, zh, mm⟩) (hc : i < 16) (ho : OS [] h0 b3 cap3 (min i 17 + 1)) (hm : h0 ≤ m') (hi : i < xs.length) : ResI h0 xs ⟨i + 1, b3, cap3, zl ++ [xs.getD i 0], b6, cap6, zh, m'⟩ := by
  obtain ⟨h1, h2, h3, h4, h5, h6, h7, h8⟩ := hI
  dsimp only at h1 h2 h3 h4 h5 h6 h7 h8
  refine ⟨hi, ?_, ?_, h4, ?_, ?_, ?_, hm⟩
  · dsimp only
    rw [h2]
    unfold lowL
    rw [if_pos (by omega), if_pos (by omega), takeS hi]
  · dsimp only; omega
  · dsimp only
    rw [show i + 1 - 16 = i - 16 by omega]; exact h5
  · dsimp only
    rw [show min (i + 1) 17 = min i 17 + 1 by omega]; exact ho
  · dsimp only
    rw [show i + 1 - 16 = i - 16 by omega]; exact h7
theorem resB (hx : ∀ x ∈ xs, x < 256) (hI : ResI h0 xs ⟨i, b5, cap5, zl, b6, cap6, zh, mm⟩) (hc : i = 16) (ho : OS [] h0 b3 cap3 (min i 17 + 1)) (ho4 : OS [] h0 b4 cap4 (i - 16 + 1)) (hm : h0 ≤ m') (hi : i < xs.length) : ResI h0 xs ⟨i + 1, b3, cap3, zl ++ [xs.getD i 0 % 4], b4, cap4, zh ++ [(xs.getD i 0 / 4 + xs.getD (i + 1) 0 % 4 * 64)], m'⟩ := by
  subst hc
  obtain ⟨h1, h2, h3, h4, h5, h6, h7, h8⟩ := hI
  dsimp only at h1 h2 h3 h4 h5 h6 h7 h8
  have hs := hiStep (q := 0) hx h3 h4 h5
  exact ⟨hi, by dsimp only; rw [h2]; rfl, by dsimp only; simp [h3], hs.1, hs.2, ho, ho4, hm⟩
theorem resC (hx : ∀ x ∈ xs, x < 256) (hI : ResI h0 xs ⟨i, b5, cap5, zl, b6, cap6, zh, mm⟩) (hc : 16 < i) (ho4 : OS [] h0 b4 cap4 (i - 16 + 1)) (hm : h0 ≤ m') (hi : i < xs.length) : ResI h0 xs ⟨i + 1, b5, cap5, zl, b4, cap4, zh ++ [(xs.getD i 0 / 4 + xs.getD (i + 1) 0 % 4 * 64)], m'⟩ := by
  obtain ⟨h1, h2, h3, h4, h5, h6, h7, h8⟩ := hI
  dsimp only at h1 h2 h3 h4 h5 h6 h7 h8
  have hs := hiStep (q := i - 16) hx h3 h4 h5
  rw [show 16 + (i - 16) = i by omega] at hs
  refine ⟨hi, ?_, ?_, hs.1, ?_, ?_, ?_, hm⟩
  · dsimp only; rw [h2]; unfold lowL; rw [if_neg (by omega), if_neg (by omega)]
  · dsimp only; simp [h3]; omega
  · dsimp only
    rw [show i + 1 - 16 = i - 16 + 1 by omega, show 16 + (i - 16 + 1) = i + 1 by omega]; exact hs.2
  · dsimp only; rw [show min (i + 1) 17 = min i 17 by omega]; exact h6
  · dsimp only; rw [show i + 1 - 16 = i - 16 + 1 by omega]; exact ho4
end
theorem resEnd {h0 mm cap5 cap6 : Nat} {b5 b6 : Option Addr} {xs zl zh : List Nat} (hx : ∀ x ∈ xs, x < 256) (h17 : 17 ≤ xs.length) (hI : ResI h0 xs ⟨xs.length, b5, cap5, zl, b6, cap6, zh, mm⟩) :
    (∀ d ∈ zl, d < 256) ∧ zl.length = 17 ∧ zh.length = xs.length - 16 ∧ vl zl = vl xs % 1361129467683753853853498429727072845824 ∧ vl zh = vl xs / 1361129467683753853853498429727072845824 := by
  obtain ⟨h1, h2, h3, h4, h5, h6, h7, h8⟩ := hI
  dsimp only at h1 h2 h3 h4 h5 h6 h7 h8
  have e0 : zl = xs.take 16 ++ [xs.getD 16 0 % 4] := by rw [h2]; unfold lowL; rw [if_neg (by omega)]
  have h9 := vl_split xs 16
  have h10 : (xs.take 16).length = 16 := by simp; omega
  rw [h10] at h9
  have h11 : vl zl = vl (xs.take 16) + 256 ^ 16 * (xs.getD 16 0 % 4) := by rw [e0, vl_snoc, h10]
  have h12 : vl (xs.take 16) < 256 ^ 16 := by
    have := vl_lt (xs.take 16) (fun x h => hx x (List.mem_of_mem_take h))
    rwa [h10] at this
  rw [List.take_of_length_le (by simp), show 16 + (xs.length - 16) = xs.length by omega, getD_out (Nat.le_refl _), Nat.zero_mod, Nat.mul_zero, Nat.add_zero] at h5
  refine ⟨?_, by rw [e0]; simp; omega, h3, ?_, ?_⟩
  · rw [e0]
    intro d hd
    rcases List.mem_append.1 hd with h | h
    · exact hx d (List.mem_of_mem_take h)
    · simp only [List.mem_singleton] at h; omega
  · rw [h11, h9, ← h5]
    have : (256 : Nat) ^ 16 = 340282366920938463463374607431768211456 := by decide
    rw [this] at h12 ⊢
    omega
  · rw [h9, ← h5]
    have : (256 : Nat) ^ 16 = 340282366920938463463374607431768211456 := by decide
    rw [this] at h12 ⊢
    omega
def Bd : Nat → Nat
  | 0 => 497323236409786642155382248146820840100456150797347717440463976893159497012533375533056
  | 1 => 2 ^ 193
  | 2 => 2 ^ 131
  | 3 => 2 ^ 130 + 5
  | _ => 2 ^ 130
theorem Bd_step (n V : Nat) (h : V < Bd n) : V % 1361129467683753853853498429727072845824 + 5 * (V / 1361129467683753853853498429727072845824) < Bd (n + 1) := by
  match n with
  | 0 => simp only [Bd] at h ⊢; omega
  | 1 => simp only [Bd] at h ⊢; omega
  | 2 => simp only [Bd] at h ⊢; omega
  | 3 => simp only [Bd] at h ⊢; omega
  | n + 4 => simp only [Bd] at h ⊢; omega
theorem mod_step (V : Nat) : (V % 1361129467683753853853498429727072845824 + 5 * (V / 1361129467683753853853498429727072845824)) % P130 = V % P130 := by
  have e : V = (V % 1361129467683753853853498429727072845824 + 5 * (V / 1361129467683753853853498429727072845824)) + P130 * (V / 1361129467683753853853498429727072845824) := by
    simp only [P130]; omega
  conv => rhs; rw [e]
  exact (Nat.add_mul_mod_self_left _ _ _).symm
def LB : Nat → Nat
  | 0 => 36
  | 1 => 23
  | _ => 18
theorem LB_step (n l l' : Nat) (h : l ≤ LB n) (h17 : 17 ≤ l) (h' : l' ≤ max 17 (l - 14) + 1) : l' ≤ LB (n + 1) := by
  match n with
  | 0 => simp only [LB] at h ⊢; omega
  | 1 => simp only [LB] at h ⊢; omega
  | n + 2 => simp only [LB] at h ⊢; omega
theorem LB_le (n : Nat) : LB n ≤ 36 := by
  match n with
  | 0 => simp only [LB]; omega
  | 1 => simp only [LB]; omega
  | n + 2 => simp only [LB]; omega
structure ResO (h0 V0 : Nat) (b0 : Option Addr) (z : Nat × Option Addr × Nat × List Nat × Nat) : Prop where
  n : z.1 ≤ 8
  dg : ∀ d ∈ z.2.2.2.1, d < 256
  ln : 17 ≤ z.2.2.2.1.length
  ln2 : z.2.2.2.1.length ≤ LB z.1
  v : vl z.2.2.2.1 % P130 = V0 % P130
  bd : vl z.2.2.2.1 < Bd z.1
  os : z.1 = 0 ∧ z.2.1 = b0 ∨ OS [] h0 z.2.1 z.2.2.1 z.2.2.2.1.length
  m : h0 ≤ z.2.2.2.2
def outL5 (ys : List Nat) (i : Nat) : List Nat := if i ≤ 16 then ys.take i else ys.take 16 ++ [ys.getD 16 0 % 4]
theorem outL5_len (ys : List Nat) (i : Nat) (h : i ≤ 16) (h2 : 17 ≤ ys.length) : (outL5 ys i).length = i := by unfold outL5; rw [if_pos h]; simp; omega
theorem outL5_lt (ys : List Nat) (i : Nat) (h : i < 16) (h2 : 17 ≤ ys.length) : outL5 ys (i + 1) = outL5 ys i ++ [ys.getD i 0] := by unfold outL5; rw [if_pos (by omega), if_pos (by omega), takeS (by omega)]
theorem out5 {ys : List Nat} (hy : ∀ d ∈ ys, d < 256) (hl : 17 ≤ ys.length) (hV : vl ys < 2 ^ 131) : (∀ d ∈ outL5 ys 17, d < 256) ∧ vl (outL5 ys 17) = vl ys % 1361129467683753853853498429727072845824 := by
  have e0 : outL5 ys 17 = ys.take 16 ++ [ys.getD 16 0 % 4] := by unfold outL5; rw [if_neg (by omega)]
  have h10 : (ys.take 16).length = 16 := by simp; omega
  have h9 := vl_split ys 16
  have h8 := vl_digit (ys.drop 16) (fun x h => hy x (List.mem_of_mem_drop h)) 0
  rw [getD_drop] at h8
  rw [h10] at h9
  have h12 : vl (ys.take 16) < 256 ^ 16 := by
    have := vl_lt (ys.take 16) (fun x h => hy x (List.mem_of_mem_take h))
    rwa [h10] at this
  have h13 : (256 : Nat) ^ 16 = 340282366920938463463374607431768211456 := by decide
  rw [h13] at h9 h12
  refine ⟨?_, ?_⟩
  · rw [e0]
    intro d hd
    rcases List.mem_append.1 hd with h | h
    · exact hy d (List.mem_of_mem_take h)
    · simp only [List.mem_singleton] at h; omega
  · rw [e0, vl_snoc, h10, h13]
    simp only [Nat.pow_zero, Nat.div_one, Nat.add_zero] at h8
    have h14 : (2 : Nat) ^ 131 = 2722258935367507707706996859454145691648 := by decide
    rw [h14] at hV
    omega
set_option maxRecDepth 100000 in
set_option maxHeartbeats 4000000 in
theorem rest_c (b0 : Option Addr) (cap0 : Nat) (xs0 : List Nat) (hx0 : ∀ x ∈ xs0, x < 256) (hl : 17 ≤ xs0.length) (hl2 : xs0.length ≤ 36) (w : World) (hL0 : Has [.sl b0 cap0 3 1 (xs0.map IV)] w) (hg0 : ∃ g, b0 = some ⟨g, 0, none⟩) :
    CA Tryd.prog 44 [.slice b0 xs0.length cap0] w (RLe IV 3 (fun zs => (∀ d ∈ zs, d < 256) ∧ vl zs = vl xs0 % P130 ∧ 17 ≤ zs.length ∧ zs.length ≤ 18) w) := by
  refine enter (L := _) (X := []) Tryd.func44 rfl Tryd.ntmps44 rfl rfl hL0 ?_
  repeat (first | refine c_seq ?_ | (refine c_region (id := 0) ?_; refine sq qa ?_; refine l_nil ?_) | (refine c_region (id := 1) ?_; refine sq qm ?_; refine sq qa ?_; refine l_nil ?_) | (refine c_region (id := 2) ?_; refine sq qa ?_; refine l_nil ?_) | refine n_then ?_ | refine c_block ?_ | refine c_skip ?_ | refine n_block ?_ | refine c_exit ?_ | refine n_then_exit ?_ | refine n_block_eq ?_ | refine n_block_ne rfl ?_ | refine c_ret ?_ | refine n_then_ret ?_ | refine n_block_ret ?_ | refine c_cond_t rfl ?_ | refine c_cond_f rfl ?_ | refine r_succ ?_ )
  refine c_loop (γ := Nat × Option Addr × Nat × List Nat × Nat) (fun z => [(4, .int .i64 z.1), (3, .slice z.2.1 z.2.2.2.1.length z.2.2.1)]) (fun z => z.2.2.2.2) (fun z => [.sl z.2.1 z.2.2.1 3 1 (z.2.2.2.1.map IV)]) (ResO w.heap.size (vl xs0) b0) (fun z => 8 - z.1) ⟨0, b0, cap0, xs0, w.heap.size⟩ ⟨by simp, hx0, hl, hl2, rfl, by
    have h1 := vl_lt xs0 hx0
    have h2 : 256 ^ xs0.length ≤ 256 ^ 36 := Nat.pow_le_pow_right (by omega) hl2
    exact Nat.lt_of_lt_of_le h1 h2, .inl ⟨rfl, rfl⟩, by simp⟩ ⟨rfl, rfl, trivial⟩ rfl (by (repeat (first | exact List.nil_sublist _ | exact List.Sublist.slnil | apply List.Sublist.cons_cons | exact List.Sublist.refl _ | apply List.Sublist.cons))) ?_
  rintro ⟨n, b, cap, xs, mm⟩ hIO
  obtain ⟨hn, hx, hl17, hLB, hV, hBd, hO, hmm⟩ := hIO
  dsimp only at hn hx hl17 hLB hV hBd hO hmm ⊢
  have hl40 := Nat.le_trans hLB (LB_le n)
  repeat (first | refine c_seq ?_ | (refine c_region (id := 3) ?_; refine sq qm ?_; refine sq qlss ?_; refine l_nil ?_) | refine n_then ?_ | refine c_block ?_ | refine c_skip ?_ | refine n_block ?_ | refine c_exit ?_ | refine n_then_exit ?_ | refine n_block_eq ?_ | refine n_block_ne rfl ?_ | refine c_ret ?_ | refine n_then_ret ?_ | refine n_block_ret ?_ | refine c_cond_t rfl ?_ | refine c_cond_f rfl ?_ | refine r_succ ?_ )
  refine c_cond_dec rfl (fun h => ?_) (fun h => ?_)
  · repeat (first | refine c_seq ?_ | (refine c_region (id := 5) ?_; refine sq qa ?_; refine sq qa ?_; refine l_nil ?_) | (refine c_region (id := 6) ?_; refine sq qa ?_; refine l_nil ?_) | refine n_then ?_ | refine c_block ?_ | refine c_skip ?_ | refine n_block ?_ | refine c_exit ?_ | refine n_then_exit ?_ | refine n_block_eq ?_ | refine n_block_ne rfl ?_ | refine c_ret ?_ | refine n_then_ret ?_ | refine n_block_ret ?_ | refine c_cond_t rfl ?_ | refine c_cond_f rfl ?_ | refine r_succ ?_ )
    refine add_nil 3 1 ?_
    refine add_nil 3 1 ?_
    refine c_loop (γ := Nat × Option Addr × Nat × List Nat × Option Addr × Nat × List Nat × Nat) (fun z => [(7, .int .i64 z.1), (5, .slice z.2.1 (min z.1 17) z.2.2.1), (6, .slice z.2.2.2.2.1 (z.1 - 16) z.2.2.2.2.2.1), (3, .slice b xs.length cap), (4, .int .i64 n)]) (fun z => z.2.2.2.2.2.2.2) (fun z => [.sl z.2.1 z.2.2.1 3 1 (z.2.2.2.1.map IV), .sl z.2.2.2.2.1 z.2.2.2.2.2.1 3 1 (z.2.2.2.2.2.2.1.map IV), .sl b cap 3 1 (xs.map IV)]) (ResI w.heap.size xs) (fun z => xs.length - z.1) ⟨0, none, 0, [], none, 0, [], mm⟩ ⟨by simp, by simp [lowL], by simp, by simp, by simp [vl], OS.nil _ _, OS.nil _ _, hmm⟩ ⟨rfl, rfl, rfl, rfl, rfl, trivial⟩ rfl (by (repeat (first | exact List.nil_sublist _ | exact List.Sublist.slnil | apply List.Sublist.cons_cons | exact List.Sublist.refl _ | apply List.Sublist.cons))) ?_
    rintro ⟨i, b5, cap5, zl, b6, cap6, zh, mm2⟩ hI
    have hi := hI.i
    have hll := lowL_len xs i hi
    rw [← hI.lo] at hll
    have hhl := hI.hl
    have hol := hI.ol
    have hoh := hI.oh
    have hmm2 := hI.m
    dsimp only at hi hll hhl hol hoh hmm2 ⊢
    have hXb : xs.getD i 0 < 256 := getD_lt hx (by omega) i
    have hNb : xs.getD (i + 1) 0 < 256 := getD_lt hx (by omega) (i + 1)
    by_cases hi9 : i < xs.length
    · obtain ⟨g, rfl⟩ : ∃ g, b = some ⟨g, 0, none⟩ := by
        rcases hO with h0 | hO
        · rw [h0.2]; exact hg0
        · exact hO.some (by omega)
      rcases (by omega : i < 16 ∨ i = 16 ∨ 16 < i) with hc | hc | hc
      · have hz := nthI (xs := xs) (i := i) (by omega)
        repeat (first | refine c_seq ?_ | (refine c_region (id := 7) ?_; refine sq qm ?_; refine sq qm ?_; refine sq qls ?_; refine sq (by first | exact dlsst | exact dlssf) ?_; refine l_nil ?_) | (refine c_region (id := 8) ?_; refine sq qm ?_; refine sq qadd64 ?_; refine sq qa ?_; refine l_nil ?_) | (refine c_region (id := 9) ?_; refine sq qm ?_; refine sq (by first | exact dlsst | exact dlssf) ?_; refine l_nil ?_) | (refine c_region (id := 10) ?_; refine sq qm ?_; refine sq qm ?_; refine sq qm ?_; refine sq (by exact q_indexAddr_sl (o' := i) rfl rfl (by omega) (by omega) (by omega)) ?_; refine sq ql ?_; refine se ?_; refine ebs ?_; refine se ?_; refine e_appM IV zl (xs.getD i 0) rfl rfl rfl (by (repeat (first | exact Rm.here | apply Rm.there))) (by (repeat (first | exact List.Mem.head _ | apply List.Mem.tail))) (by first | omega | simp) hol (by rfl) (by omega) (by omega) ?_; intro b3 cap3 m3 ho3 hm3; refine sq qa ?_; refine l_nil ?_) | (refine c_region (id := 11) ?_; refine sq qm ?_; refine sq (by first | exact deqlt | exact deqlf) ?_; refine l_nil ?_) | (refine c_region (id := 13) ?_; refine sq qm ?_; refine sq (by first | exact dgeqt | exact dgeqf) ?_; refine l_nil ?_) | refine n_then ?_ | refine c_block ?_ | refine c_skip ?_ | refine n_block ?_ | refine c_exit ?_ | refine n_then_exit ?_ | refine n_block_eq ?_ | refine n_block_ne rfl ?_ | refine c_ret ?_ | refine n_then_ret ?_ | refine n_block_ret ?_ | refine c_cond_t rfl ?_ | refine c_cond_f rfl ?_ | refine r_succ ?_ )
        have hA : min (i + 1) 17 = min i 17 + 1 := by omega
        have hB : i + 1 - 16 = i - 16 := by omega
        refine c_round ⟨i + 1, b3, cap3, zl ++ [xs.getD i 0], b6, cap6, zh, m3⟩ (resA hx hI hc ho3 (by omega) hi9) (by dsimp only; omega) (by exact ⟨rfl, by dsimp only; rw [hA]; rfl, by dsimp only; rw [hB]; rfl, rfl, rfl, trivial⟩) (by rfl) (by (repeat (first | exact List.nil_sublist _ | exact List.Sublist.slnil | apply List.Sublist.cons_cons | exact List.Sublist.refl _ | apply List.Sublist.cons)))
      · by_cases hn9 : i + 1 < xs.length
        · have hz := nthI (xs := xs) (i := i) (by omega)
          have hz1 := nthI (xs := xs) (i := i + 1) (by omega)
          repeat (first | refine c_seq ?_ | (refine c_region (id := 7) ?_; refine sq qm ?_; refine sq qm ?_; refine sq qls ?_; refine sq (by first | exact dlsst | exact dlssf) ?_; refine l_nil ?_) | (refine c_region (id := 8) ?_; refine sq qm ?_; refine sq qadd64 ?_; refine sq qa ?_; refine l_nil ?_) | (refine c_region (id := 9) ?_; refine sq qm ?_; refine sq (by first | exact dlsst | exact dlssf) ?_; refine l_nil ?_) | (refine c_region (id := 11) ?_; refine sq qm ?_; refine sq (by first | exact deqlt | exact deqlf) ?_; refine l_nil ?_) | (refine c_region (id := 12) ?_; refine sq qm ?_; refine sq qm ?_; refine sq qm ?_; refine sq (by exact q_indexAddr_sl (o' := i) rfl rfl (by omega) (by omega) (by omega)) ?_; refine sq ql ?_; refine sq (by exact Qt.cast (v' := .int .i64 ((xs.getD i 0 % 4 : Nat) : Int)) (congrArg (Value.int .i64) (by omega)) (q_rem rfl rfl (by omega) (by omega))) ?_; refine se ?_; refine ebs ?_; refine se ?_; refine e_appM IV zl (xs.getD i 0 % 4) rfl rfl rfl (by (repeat (first | exact Rm.here | apply Rm.there))) (by (repeat (first | exact List.Mem.head _ | apply List.Mem.tail))) (by first | omega | simp) hol (by rfl) (by omega) (by omega) ?_; intro b3 cap3 m3 ho3 hm3; refine sq qa ?_; refine l_nil ?_) | (refine c_region (id := 13) ?_; refine sq qm ?_; refine sq (by first | exact dgeqt | exact dgeqf) ?_; refine l_nil ?_) | (refine c_region (id := 14) ?_; refine sq qa ?_; refine l_nil ?_) | (refine c_region (id := 15) ?_; refine sq qm ?_; refine sq qadd64 ?_; refine sq qm ?_; refine sq qls ?_; refine sq (by first | exact dlsst | exact dlssf) ?_; refine l_nil ?_) | (refine c_region (id := 16) ?_; refine sq qm ?_; refine sq qm ?_; refine sq qadd64 ?_; refine sq (by exact q_indexAddr_sl (o' := i + 1) rfl rfl (by omega) (by omega) (by omega)) ?_; refine sq ql ?_; refine sq qa ?_; refine l_nil ?_) | (refine c_region (id := 17) ?_; refine sq qm ?_; refine sq qm ?_; refine sq qm ?_; refine sq (by exact q_indexAddr_sl (o' := i) rfl rfl (by omega) (by omega) (by omega)) ?_; refine sq ql ?_; refine sq (by exact Qt.cast (v' := .int .i64 ((xs.getD i 0 / 4 : Nat) : Int)) (congrArg (Value.int .i64) (by omega)) (q_quo rfl rfl (by omega) (by omega) (by simp only [IntKind.wrap_i64]; omega))) ?_; refine sq qm ?_; refine sq (by exact Qt.cast (v' := .int .i64 ((xs.getD (i + 1) 0 % 4 : Nat) : Int)) (congrArg (Value.int .i64) (by omega)) (q_rem rfl rfl (by omega) (by omega))) ?_; refine sq (by exact Qt.cast (v' := .int .i64 ((xs.getD (i + 1) 0 % 4 * 64 : Nat) : Int)) (congrArg (Value.int .i64) (by omega)) (q_mul64 rfl rfl ⟨by omega, by omega⟩ rfl)) ?_; refine sq (by exact Qt.cast (v' := .int .i64 ((xs.getD i 0 / 4 + xs.getD (i + 1) 0 % 4 * 64 : Nat) : Int)) (congrArg (Value.int .i64) (by omega)) (q_add64 rfl rfl ⟨by omega, by omega⟩ rfl)) ?_; refine se ?_; refine ebs ?_; refine se ?_; refine e_appM IV zh (xs.getD i 0 / 4 + xs.getD (i + 1) 0 % 4 * 64) rfl rfl rfl (by (repeat (first | exact Rm.here | apply Rm.there))) (by (repeat (first | exact List.Mem.head _ | apply List.Mem.tail))) (by first | omega | simp) hoh (by rfl) (by omega) (by omega) ?_; intro b4 cap4 m4 ho4 hm4; refine sq qa ?_; refine l_nil ?_) | refine n_then ?_ | refine c_block ?_ | refine c_skip ?_ | refine n_block ?_ | refine c_exit ?_ | refine n_then_exit ?_ | refine n_block_eq ?_ | refine n_block_ne rfl ?_ | refine c_ret ?_ | refine n_then_ret ?_ | refine n_block_ret ?_ | refine c_cond_t rfl ?_ | refine c_cond_f rfl ?_ | refine r_succ ?_ )
          refine frn (c := .sl b3 _ _ _ _) (by (repeat (first | exact Rm.here | apply Rm.there))) ?_
          have hA : min (i + 1) 17 = min i 17 + 1 := by omega
          have hB : i + 1 - 16 = i - 16 + 1 := by omega
          refine c_round ⟨i + 1, b3, cap3, zl ++ [xs.getD i 0 % 4], b4, cap4, zh ++ [(xs.getD i 0 / 4 + xs.getD (i + 1) 0 % 4 * 64)], m4⟩ (resB hx hI hc ho3 ho4 (by omega) hi9) (by dsimp only; omega) (by exact ⟨rfl, by dsimp only; rw [hA]; rfl, by dsimp only; rw [hB]; rfl, rfl, rfl, trivial⟩) (by rfl) (by (repeat (first | exact List.nil_sublist _ | exact List.Sublist.slnil | apply List.Sublist.cons_cons | exact List.Sublist.refl _ | apply List.Sublist.cons)))
        · have hz := nthI (xs := xs) (i := i) (by omega)
          have hz1 : xs.getD (i + 1) 0 = 0 := getD_out (by omega)
          repeat (first | refine c_seq ?_ | (refine c_region (id := 7) ?_; refine sq qm ?_; refine sq qm ?_; refine sq qls ?_; refine sq (by first | exact dlsst | exact dlssf) ?_; refine l_nil ?_) | (refine c_region (id := 8) ?_; refine sq qm ?_; refine sq qadd64 ?_; refine sq qa ?_; refine l_nil ?_) | (refine c_region (id := 9) ?_; refine sq qm ?_; refine sq (by first | exact dlsst | exact dlssf) ?_; refine l_nil ?_) | (refine c_region (id := 11) ?_; refine sq qm ?_; refine sq (by first | exact deqlt | exact deqlf) ?_; refine l_nil ?_) | (refine c_region (id := 12) ?_; refine sq qm ?_; refine sq qm ?_; refine sq qm ?_; refine sq (by exact q_indexAddr_sl (o' := i) rfl rfl (by omega) (by omega) (by omega)) ?_; refine sq ql ?_; refine sq (by exact Qt.cast (v' := .int .i64 ((xs.getD i 0 % 4 : Nat) : Int)) (congrArg (Value.int .i64) (by omega)) (q_rem rfl rfl (by omega) (by omega))) ?_; refine se ?_; refine ebs ?_; refine se ?_; refine e_appM IV zl (xs.getD i 0 % 4) rfl rfl rfl (by (repeat (first | exact Rm.here | apply Rm.there))) (by (repeat (first | exact List.Mem.head _ | apply List.Mem.tail))) (by first | omega | simp) hol (by rfl) (by omega) (by omega) ?_; intro b3 cap3 m3 ho3 hm3; refine sq qa ?_; refine l_nil ?_) | (refine c_region (id := 13) ?_; refine sq qm ?_; refine sq (by first | exact dgeqt | exact dgeqf) ?_; refine l_nil ?_) | (refine c_region (id := 14) ?_; refine sq qa ?_; refine l_nil ?_) | (refine c_region (id := 15) ?_; refine sq qm ?_; refine sq qadd64 ?_; refine sq qm ?_; refine sq qls ?_; refine sq (by first | exact dlsst | exact dlssf) ?_; refine l_nil ?_) | (refine c_region (id := 17) ?_; refine sq qm ?_; refine sq qm ?_; refine sq qm ?_; refine sq (by exact q_indexAddr_sl (o' := i) rfl rfl (by omega) (by omega) (by omega)) ?_; refine sq ql ?_; refine sq (by exact Qt.cast (v' := .int .i64 ((xs.getD i 0 / 4 : Nat) : Int)) (congrArg (Value.int .i64) (by omega)) (q_quo rfl rfl (by omega) (by omega) (by simp only [IntKind.wrap_i64]; omega))) ?_; refine sq qm ?_; refine sq (by exact Qt.cast (v' := .int .i64 ((xs.getD (i + 1) 0 % 4 : Nat) : Int)) (congrArg (Value.int .i64) (by omega)) (q_rem rfl rfl (by omega) (by omega))) ?_; refine sq (by exact Qt.cast (v' := .int .i64 ((xs.getD (i + 1) 0 % 4 * 64 : Nat) : Int)) (congrArg (Value.int .i64) (by omega)) (q_mul64 rfl rfl ⟨by omega, by omega⟩ rfl)) ?_; refine sq (by exact Qt.cast (v' := .int .i64 ((xs.getD i 0 / 4 + xs.getD (i + 1) 0 % 4 * 64 : Nat) : Int)) (congrArg (Value.int .i64) (by omega)) (q_add64 rfl rfl ⟨by omega, by omega⟩ rfl)) ?_; refine se ?_; refine ebs ?_; refine se ?_; refine e_appM IV zh (xs.getD i 0 / 4 + xs.getD (i + 1) 0 % 4 * 64) rfl rfl rfl (by (repeat (first | exact Rm.here | apply Rm.there))) (by (repeat (first | exact List.Mem.head _ | apply List.Mem.tail))) (by first | omega | simp) hoh (by rfl) (by omega) (by omega) ?_; intro b4 cap4 m4 ho4 hm4; refine sq qa ?_; refine l_nil ?_) | refine n_then ?_ | refine c_block ?_ | refine c_skip ?_ | refine n_block ?_ | refine c_exit ?_ | refine n_then_exit ?_ | refine n_block_eq ?_ | refine n_block_ne rfl ?_ | refine c_ret ?_ | refine n_then_ret ?_ | refine n_block_ret ?_ | refine c_cond_t rfl ?_ | refine c_cond_f rfl ?_ | refine r_succ ?_ )
          refine frn (c := .sl b3 _ _ _ _) (by (repeat (first | exact Rm.here | apply Rm.there))) ?_
          have hA : min (i + 1) 17 = min i 17 + 1 := by omega
          have hB : i + 1 - 16 = i - 16 + 1 := by omega
          refine c_round ⟨i + 1, b3, cap3, zl ++ [xs.getD i 0 % 4], b4, cap4, zh ++ [(xs.getD i 0 / 4 + xs.getD (i + 1) 0 % 4 * 64)], m4⟩ (resB hx hI hc ho3 ho4 (by omega) hi9) (by dsimp only; omega) (by exact ⟨rfl, by dsimp only; rw [hA]; rfl, by dsimp only; rw [hB]; rfl, rfl, rfl, trivial⟩) (by rfl) (by (repeat (first | exact List.nil_sublist _ | exact List.Sublist.slnil | apply List.Sublist.cons_cons | exact List.Sublist.refl _ | apply List.Sublist.cons)))
      · by_cases hn9 : i + 1 < xs.length
        · have hz := nthI (xs := xs) (i := i) (by omega)
          have hz1 := nthI (xs := xs) (i := i + 1) (by omega)
          repeat (first | refine c_seq ?_ | (refine c_region (id := 7) ?_; refine sq qm ?_; refine sq qm ?_; refine sq qls ?_; refine sq (by first | exact dlsst | exact dlssf) ?_; refine l_nil ?_) | (refine c_region (id := 8) ?_; refine sq qm ?_; refine sq qadd64 ?_; refine sq qa ?_; refine l_nil ?_) | (refine c_region (id := 9) ?_; refine sq qm ?_; refine sq (by first | exact dlsst | exact dlssf) ?_; refine l_nil ?_) | (refine c_region (id := 11) ?_; refine sq qm ?_; refine sq (by first | exact deqlt | exact deqlf) ?_; refine l_nil ?_) | (refine c_region (id := 13) ?_; refine sq qm ?_; refine sq (by first | exact dgeqt | exact dgeqf) ?_; refine l_nil ?_) | (refine c_region (id := 14) ?_; refine sq qa ?_; refine l_nil ?_) | (refine c_region (id := 15) ?_; refine sq qm ?_; refine sq qadd64 ?_; refine sq qm ?_; refine sq qls ?_; refine sq (by first | exact dlsst | exact dlssf) ?_; refine l_nil ?_) | (refine c_region (id := 16) ?_; refine sq qm ?_; refine sq qm ?_; refine sq qadd64 ?_; refine sq (by exact q_indexAddr_sl (o' := i + 1) rfl rfl (by omega) (by omega) (by omega)) ?_; refine sq ql ?_; refine sq qa ?_; refine l_nil ?_) | (refine c_region (id := 17) ?_; refine sq qm ?_; refine sq qm ?_; refine sq qm ?_; refine sq (by exact q_indexAddr_sl (o' := i) rfl rfl (by omega) (by omega) (by omega)) ?_; refine sq ql ?_; refine sq (by exact Qt.cast (v' := .int .i64 ((xs.getD i 0 / 4 : Nat) : Int)) (congrArg (Value.int .i64) (by omega)) (q_quo rfl rfl (by omega) (by omega) (by simp only [IntKind.wrap_i64]; omega))) ?_; refine sq qm ?_; refine sq (by exact Qt.cast (v' := .int .i64 ((xs.getD (i + 1) 0 % 4 : Nat) : Int)) (congrArg (Value.int .i64) (by omega)) (q_rem rfl rfl (by omega) (by omega))) ?_; refine sq (by exact Qt.cast (v' := .int .i64 ((xs.getD (i + 1) 0 % 4 * 64 : Nat) : Int)) (congrArg (Value.int .i64) (by omega)) (q_mul64 rfl rfl ⟨by omega, by omega⟩ rfl)) ?_; refine sq (by exact Qt.cast (v' := .int .i64 ((xs.getD i 0 / 4 + xs.getD (i + 1) 0 % 4 * 64 : Nat) : Int)) (congrArg (Value.int .i64) (by omega)) (q_add64 rfl rfl ⟨by omega, by omega⟩ rfl)) ?_; refine se ?_; refine ebs ?_; refine se ?_; refine e_appM IV zh (xs.getD i 0 / 4 + xs.getD (i + 1) 0 % 4 * 64) rfl rfl rfl (by (repeat (first | exact Rm.here | apply Rm.there))) (by (repeat (first | exact List.Mem.head _ | apply List.Mem.tail))) (by first | omega | simp) hoh (by rfl) (by omega) (by omega) ?_; intro b4 cap4 m4 ho4 hm4; refine sq qa ?_; refine l_nil ?_) | refine n_then ?_ | refine c_block ?_ | refine c_skip ?_ | refine n_block ?_ | refine c_exit ?_ | refine n_then_exit ?_ | refine n_block_eq ?_ | refine n_block_ne rfl ?_ | refine c_ret ?_ | refine n_then_ret ?_ | refine n_block_ret ?_ | refine c_cond_t rfl ?_ | refine c_cond_f rfl ?_ | refine r_succ ?_ )
          refine frn (c := .sl b5 _ _ _ _) (by (repeat (first | exact Rm.here | apply Rm.there))) ?_
          have hA : min (i + 1) 17 = min i 17 := by omega
          have hB : i + 1 - 16 = i - 16 + 1 := by omega
          refine c_round ⟨i + 1, b5, cap5, zl, b4, cap4, zh ++ [(xs.getD i 0 / 4 + xs.getD (i + 1) 0 % 4 * 64)], m4⟩ (resC hx hI hc ho4 (by omega) hi9) (by dsimp only; omega) (by exact ⟨rfl, by dsimp only; rw [hA]; rfl, by dsimp only; rw [hB]; rfl, rfl, rfl, trivial⟩) (by rfl) (by (repeat (first | exact List.nil_sublist _ | exact List.Sublist.slnil | apply List.Sublist.cons_cons | exact List.Sublist.refl _ | apply List.Sublist.cons)))
        · have hz := nthI (xs := xs) (i := i) (by omega)
          have hz1 : xs.getD (i + 1) 0 = 0 := getD_out (by omega)
          repeat (first | refine c_seq ?_ | (refine c_region (id := 7) ?_; refine sq qm ?_; refine sq qm ?_; refine sq qls ?_; refine sq (by first | exact dlsst | exact dlssf) ?_; refine l_nil ?_) | (refine c_region (id := 8) ?_; refine sq qm ?_; refine sq qadd64 ?_; refine sq qa ?_; refine l_nil ?_) | (refine c_region (id := 9) ?_; refine sq qm ?_; refine sq (by first | exact dlsst | exact dlssf) ?_; refine l_nil ?_) | (refine c_region (id := 11) ?_; refine sq qm ?_; refine sq (by first | exact deqlt | exact deqlf) ?_; refine l_nil ?_) | (refine c_region (id := 13) ?_; refine sq qm ?_; refine sq (by first | exact dgeqt | exact dgeqf) ?_; refine l_nil ?_) | (refine c_region (id := 14) ?_; refine sq qa ?_; refine l_nil ?_) | (refine c_region (id := 15) ?_; refine sq qm ?_; refine sq qadd64 ?_; refine sq qm ?_; refine sq qls ?_; refine sq (by first | exact dlsst | exact dlssf) ?_; refine l_nil ?_) | (refine c_region (id := 17) ?_; refine sq qm ?_; refine sq qm ?_; refine sq qm ?_; refine sq (by exact q_indexAddr_sl (o' := i) rfl rfl (by omega) (by omega) (by omega)) ?_; refine sq ql ?_; refine sq (by exact Qt.cast (v' := .int .i64 ((xs.getD i 0 / 4 : Nat) : Int)) (congrArg (Value.int .i64) (by omega)) (q_quo rfl rfl (by omega) (by omega) (by simp only [IntKind.wrap_i64]; omega))) ?_; refine sq qm ?_; refine sq (by exact Qt.cast (v' := .int .i64 ((xs.getD (i + 1) 0 % 4 : Nat) : Int)) (congrArg (Value.int .i64) (by omega)) (q_rem rfl rfl (by omega) (by omega))) ?_; refine sq (by exact Qt.cast (v' := .int .i64 ((xs.getD (i + 1) 0 % 4 * 64 : Nat) : Int)) (congrArg (Value.int .i64) (by omega)) (q_mul64 rfl rfl ⟨by omega, by omega⟩ rfl)) ?_; refine sq (by exact Qt.cast (v' := .int .i64 ((xs.getD i 0 / 4 + xs.getD (i + 1) 0 % 4 * 64 : Nat) : Int)) (congrArg (Value.int .i64) (by omega)) (q_add64 rfl rfl ⟨by omega, by omega⟩ rfl)) ?_; refine se ?_; refine ebs ?_; refine se ?_; refine e_appM IV zh (xs.getD i 0 / 4 + xs.getD (i + 1) 0 % 4 * 64) rfl rfl rfl (by (repeat (first | exact Rm.here | apply Rm.there))) (by (repeat (first | exact List.Mem.head _ | apply List.Mem.tail))) (by first | omega | simp) hoh (by rfl) (by omega) (by omega) ?_; intro b4 cap4 m4 ho4 hm4; refine sq qa ?_; refine l_nil ?_) | refine n_then ?_ | refine c_block ?_ | refine c_skip ?_ | refine n_block ?_ | refine c_exit ?_ | refine n_then_exit ?_ | refine n_block_eq ?_ | refine n_block_ne rfl ?_ | refine c_ret ?_ | refine n_then_ret ?_ | refine n_block_ret ?_ | refine c_cond_t rfl ?_ | refine c_cond_f rfl ?_ | refine r_succ ?_ )
          refine frn (c := .sl b5 _ _ _ _) (by (repeat (first | exact Rm.here | apply Rm.there))) ?_
          have hA : min (i + 1) 17 = min i 17 := by omega
          have hB : i + 1 - 16 = i - 16 + 1 := by omega
          refine c_round ⟨i + 1, b5, cap5, zl, b4, cap4, zh ++ [(xs.getD i 0 / 4 + xs.getD (i + 1) 0 % 4 * 64)], m4⟩ (resC hx hI hc ho4 (by omega) hi9) (by dsimp only; omega) (by exact ⟨rfl, by dsimp only; rw [hA]; rfl, by dsimp only; rw [hB]; rfl, rfl, rfl, trivial⟩) (by rfl) (by (repeat (first | exact List.nil_sublist _ | exact List.Sublist.slnil | apply List.Sublist.cons_cons | exact List.Sublist.refl _ | apply List.Sublist.cons)))
    · obtain rfl : i = xs.length := by omega
      obtain ⟨e1, e2, e3, e4, e5⟩ := resEnd hx hl17 hI
      have ehd := hI.hd
      dsimp only at ehd
      have hmin : min xs.length 17 = zl.length := by omega
      rw [hmin, ← e3]
      repeat (first | refine c_seq ?_ | (refine c_region (id := 4) ?_; refine sq qm ?_; refine sq qadd64 ?_; refine sq qa ?_; refine l_nil ?_) | (refine c_region (id := 7) ?_; refine sq qm ?_; refine sq qm ?_; refine sq qls ?_; refine sq (by first | exact dlsst | exact dlssf) ?_; refine l_nil ?_) | (refine c_region (id := 18) ?_; refine sq qm ?_; refine sq qm ?_; refine se ?_; refine ebs ?_; refine se ?_; refine e_callL rfl rfl (by kernel_rfl) rfl (fun w hC hm hL => by exact rmul_c _ _ _ _ zh [5] ehd (by simp) (by omega) (by simp) w (SlE.own hL (by (repeat (first | exact List.Mem.head _ | apply List.Mem.tail))) hI.oh) (SlE.blk (enc := IV) (xs := [5]) hL (by (repeat (first | exact List.Mem.head _ | apply List.Mem.tail))) 0 1 (by rfl))) ?_; intro b7 cap7 zs7 m7 hr1 ho7 hm7; refine se ?_; refine e_callL rfl rfl (by kernel_rfl) rfl (fun w hC hm hL => by exact radd_c _ _ _ _ zl zs7 e1 hr1.1 (by omega) (by rw [hr1.2.2]; simp; omega) w (SlE.own hL (by (repeat (first | exact List.Mem.head _ | apply List.Mem.tail))) hI.ol) (SlE.own hL (by (repeat (first | exact List.Mem.head _ | apply List.Mem.tail))) ho7)) ?_; intro b8 cap8 zs8 m8 hr2 ho8 hm8; refine sq qa ?_; refine l_nil ?_) | refine n_then ?_ | refine c_block ?_ | refine c_skip ?_ | refine n_block ?_ | refine c_exit ?_ | refine n_then_exit ?_ | refine n_block_eq ?_ | refine n_block_ne rfl ?_ | refine c_ret ?_ | refine n_then_ret ?_ | refine n_block_ret ?_ | refine c_cond_t rfl ?_ | refine c_cond_f rfl ?_ | refine r_succ ?_ )
      obtain ⟨d1, d2, d3, d4, d5⟩ := hr2
      refine c_round ⟨n + 1, b8, cap8, zs8, m8⟩ ⟨by dsimp only; omega, d1, by dsimp only; omega, LB_step n _ _ hLB hl17 (by dsimp only; rw [hr1.2.2, e2, e3] at d5; simp at d5; omega), ?_, ?_, .inr ho8, by dsimp only; omega⟩ (by dsimp only; omega) ⟨rfl, rfl, trivial⟩ (by rfl) (by (repeat (first | exact List.nil_sublist _ | exact List.Sublist.slnil | apply List.Sublist.cons_cons | exact List.Sublist.refl _ | apply List.Sublist.cons)))
      · dsimp only
        rw [d2, hr1.2.1, e4, e5, show vl [5] = 5 from rfl, Nat.mul_comm _ 5, mod_step, hV]
      · dsimp only
        rw [d2, hr1.2.1, e4, e5, show vl [5] = 5 from rfl, Nat.mul_comm _ 5]
        exact Bd_step n _ hBd
  · obtain rfl : n = 8 := by omega
    have hO8 : OS [] w.heap.size b cap xs.length := hO.resolve_left (fun h => by have := h.1; omega)
    have hB8 : vl xs < 2 ^ 130 := hBd
    have h18 : xs.length ≤ 18 := hLB
    repeat (first | refine c_seq ?_ | (refine c_region (id := 19) ?_; refine sq qm ?_; refine se ?_; refine ecp rfl rfl (fun w hC hm hL => by exact rless_c _ _ xs hx hl17 (by omega) w (SlE.own hL (by (repeat (first | exact List.Mem.head _ | apply List.Mem.tail))) hO8)) ?_; intro m' hm'; refine l_nil ?_) | refine n_then ?_ | refine c_block ?_ | refine c_skip ?_ | refine n_block ?_ | refine c_exit ?_ | refine n_then_exit ?_ | refine n_block_eq ?_ | refine n_block_ne rfl ?_ | refine c_ret ?_ | refine n_then_ret ?_ | refine n_block_ret ?_ | refine c_cond_t rfl ?_ | refine c_cond_f rfl ?_ | refine r_succ ?_ )
    refine c_cond_dec rfl (fun hlt => ?_) (fun hlt => ?_)
    · repeat (first | refine c_seq ?_ | (refine c_region (id := 20) ?_; refine sq qm ?_; refine sq qa ?_; refine l_nil ?_) | refine n_then ?_ | refine c_block ?_ | refine c_skip ?_ | refine n_block ?_ | refine c_exit ?_ | refine n_then_exit ?_ | refine n_block_eq ?_ | refine n_block_ne rfl ?_ | refine c_ret ?_ | refine n_then_ret ?_ | refine n_block_ret ?_ | refine c_cond_t rfl ?_ | refine c_cond_f rfl ?_ | refine r_succ ?_ )
      (first | apply r_ret (b, cap, xs) | apply r_end (b, cap, xs)); exact rfl; exact rfl; exact (.tmp rfl .nil); exact rfl; exact (by exact (by (repeat (first | exact List.nil_sublist _ | exact List.Sublist.slnil | apply List.Sublist.cons_cons | exact List.Sublist.refl _ | apply List.Sublist.cons)))); exact (new_sl hO8.newc new_nil); exact ⟨by have h9 := hO8.ret; exact h9, ⟨hx, by rw [← hV, Nat.mod_eq_of_lt hlt], hl17, h18⟩⟩
    · repeat (first | refine c_seq ?_ | (refine c_region (id := 21) ?_; refine sq qm ?_; refine se ?_; refine ebs ?_; refine se ?_; refine e_callL rfl rfl (by kernel_rfl) rfl (fun w hC hm hL => by exact radd_c _ _ _ _ xs [5] hx (by simp) (by omega) (by simp) w (SlE.own hL (by (repeat (first | exact List.Mem.head _ | apply List.Mem.tail))) hO8) (SlE.blk (enc := IV) (xs := [5]) hL (by (repeat (first | exact List.Mem.head _ | apply List.Mem.tail))) 0 1 (by rfl))) ?_; intro b7 cap7 zs7 m7 hr1 ho7 hm7; refine sq qa ?_; refine l_nil ?_) | refine n_then ?_ | refine c_block ?_ | refine c_skip ?_ | refine n_block ?_ | refine c_exit ?_ | refine n_then_exit ?_ | refine n_block_eq ?_ | refine n_block_ne rfl ?_ | refine c_ret ?_ | refine n_then_ret ?_ | refine n_block_ret ?_ | refine c_cond_t rfl ?_ | refine c_cond_f rfl ?_ | refine r_succ ?_ )
      obtain ⟨d1, d2, d3, d4, d5⟩ := hr1
      obtain ⟨ys, hys⟩ : ∃ ys, ys = zs7 := ⟨_, rfl⟩
      rw [← hys] at d1 d2 d3 d4 d5 ho7 ⊢
      repeat (first | refine c_seq ?_ | (refine c_region (id := 22) ?_; refine sq qa ?_; refine l_nil ?_) | (refine c_region (id := 23) ?_; refine sq qa ?_; refine l_nil ?_) | refine n_then ?_ | refine c_block ?_ | refine c_skip ?_ | refine n_block ?_ | refine c_exit ?_ | refine n_then_exit ?_ | refine n_block_eq ?_ | refine n_block_ne rfl ?_ | refine c_ret ?_ | refine n_then_ret ?_ | refine n_block_ret ?_ | refine c_cond_t rfl ?_ | refine c_cond_f rfl ?_ | refine r_succ ?_ )
      refine add_nil 3 1 ?_
      refine c_loop (γ := Nat × Option Addr × Nat × Nat) (fun z => [(11, .int .i64 z.1), (10, .slice z.2.1 z.1 z.2.2.1), (9, .slice b7 ys.length cap7)]) (fun z => z.2.2.2) (fun z => [.sl z.2.1 z.2.2.1 3 1 ((outL5 ys z.1).map IV), .sl b7 cap7 3 1 (ys.map IV)]) (fun z => z.1 ≤ 17 ∧ OS [] w.heap.size z.2.1 z.2.2.1 z.1 ∧ w.heap.size ≤ z.2.2.2) (fun z => 17 - z.1) ⟨0, none, 0, m7⟩ ⟨by simp, OS.nil _ _, by dsimp only; omega⟩ ⟨rfl, rfl, rfl, trivial⟩ rfl (by (repeat (first | exact List.nil_sublist _ | exact List.Sublist.slnil | apply List.Sublist.cons_cons | exact List.Sublist.refl _ | apply List.Sublist.cons))) ?_
      rintro ⟨i, b3, cap3, mm3⟩ ⟨hi, ho3, hmm3⟩
      dsimp only at hi ho3 hmm3 ⊢
      obtain ⟨g7, rfl⟩ := ho7.some (by omega)
      have hYb : ys.getD i 0 < 256 := getD_lt d1 (by omega) i
      rcases (by omega : i < 16 ∨ i = 16 ∨ i = 17) with hc | hc | hc
      · have hz := nthI (xs := ys) (i := i) (by omega)
        repeat (first | refine c_seq ?_ | (refine c_region (id := 24) ?_; refine sq qm ?_; refine sq (by first | exact dlsst | exact dlssf) ?_; refine sq qm ?_; (first | refine sk ?_ | refine skv ?_ | (refine st_want rfl rfl ?_; refine sq qm ?_)); (first | refine sk ?_ | refine skv ?_ | (refine st_want rfl rfl ?_; refine sq qm ?_)); (first | refine sk ?_ | refine skv ?_ | (refine st_want rfl rfl ?_; refine sq qls ?_)); (first | refine sk ?_ | refine skv ?_ | (refine st_want rfl rfl ?_; refine sq (by first | exact dlsst | exact dlssf) ?_)); refine sq (by first | exact qpt | exact qpf) ?_; refine l_nil ?_) | (refine c_region (id := 25) ?_; refine sq qm ?_; refine sq qadd64 ?_; refine sq qa ?_; refine l_nil ?_) | (refine c_region (id := 26) ?_; refine sq qm ?_; refine sq (by first | exact deqlt | exact deqlf) ?_; refine l_nil ?_) | (refine c_region (id := 28) ?_; refine sq qm ?_; refine sq qm ?_; refine sq qm ?_; refine sq (by exact q_indexAddr_sl (o' := i) rfl rfl (by omega) (by omega) (by omega)) ?_; refine sq ql ?_; refine se ?_; refine ebs ?_; refine se ?_; refine e_appM IV (outL5 ys i) (ys.getD i 0) rfl rfl rfl (by (repeat (first | exact Rm.here | apply Rm.there))) (by (repeat (first | exact List.Mem.head _ | apply List.Mem.tail))) (by rw [outL5_len ys i (by omega) (by omega)]) ho3 (by rfl) (by omega) (by omega) ?_; intro b9 cap9 m9 ho9 hm9; refine sq qa ?_; refine l_nil ?_) | refine n_then ?_ | refine c_block ?_ | refine c_skip ?_ | refine n_block ?_ | refine c_exit ?_ | refine n_then_exit ?_ | refine n_block_eq ?_ | refine n_block_ne rfl ?_ | refine c_ret ?_ | refine n_then_ret ?_ | refine n_block_ret ?_ | refine c_cond_t rfl ?_ | refine c_cond_f rfl ?_ | refine r_succ ?_ )
        refine c_round ⟨i + 1, b9, cap9, m9⟩ ⟨by dsimp only; omega, ho9, by dsimp only; omega⟩ (by dsimp only; omega) ⟨rfl, rfl, rfl, trivial⟩ (by rfl) (by rw [outL5_lt ys i hc (by omega)]; exact (by (repeat (first | exact List.nil_sublist _ | exact List.Sublist.slnil | apply List.Sublist.cons_cons | exact List.Sublist.refl _ | apply List.Sublist.cons))))
      · subst hc
        have hz := nthI (xs := ys) (i := 16) (by omega)
        repeat (first | refine c_seq ?_ | (refine c_region (id := 24) ?_; refine sq qm ?_; refine sq (by first | exact dlsst | exact dlssf) ?_; refine sq qm ?_; (first | refine sk ?_ | refine skv ?_ | (refine st_want rfl rfl ?_; refine sq qm ?_)); (first | refine sk ?_ | refine skv ?_ | (refine st_want rfl rfl ?_; refine sq qm ?_)); (first | refine sk ?_ | refine skv ?_ | (refine st_want rfl rfl ?_; refine sq qls ?_)); (first | refine sk ?_ | refine skv ?_ | (refine st_want rfl rfl ?_; refine sq (by first | exact dlsst | exact dlssf) ?_)); refine sq (by first | exact qpt | exact qpf) ?_; refine l_nil ?_) | (refine c_region (id := 25) ?_; refine sq qm ?_; refine sq qadd64 ?_; refine sq qa ?_; refine l_nil ?_) | (refine c_region (id := 26) ?_; refine sq qm ?_; refine sq (by first | exact deqlt | exact deqlf) ?_; refine l_nil ?_) | (refine c_region (id := 27) ?_; refine sq qm ?_; refine sq qm ?_; refine sq qm ?_; refine sq (by exact q_indexAddr_sl (o' := 16) rfl rfl (by omega) (by omega) (by omega)) ?_; refine sq ql ?_; refine sq (by exact Qt.cast (v' := .int .i64 ((ys.getD 16 0 % 4 : Nat) : Int)) (congrArg (Value.int .i64) (by omega)) (q_rem rfl rfl (by omega) (by omega))) ?_; refine se ?_; refine ebs ?_; refine se ?_; refine e_appM IV (outL5 ys 16) (ys.getD 16 0 % 4) rfl rfl rfl (by (repeat (first | exact Rm.here | apply Rm.there))) (by (repeat (first | exact List.Mem.head _ | apply List.Mem.tail))) (by rw [outL5_len ys 16 (by omega) (by omega)]) ho3 (by rfl) (by omega) (by omega) ?_; intro b9 cap9 m9 ho9 hm9; refine sq qa ?_; refine l_nil ?_) | refine n_then ?_ | refine c_block ?_ | refine c_skip ?_ | refine n_block ?_ | refine c_exit ?_ | refine n_then_exit ?_ | refine n_block_eq ?_ | refine n_block_ne rfl ?_ | refine c_ret ?_ | refine n_then_ret ?_ | refine n_block_ret ?_ | refine c_cond_t rfl ?_ | refine c_cond_f rfl ?_ | refine r_succ ?_ )
        refine c_round ⟨16 + 1, b9, cap9, m9⟩ ⟨by dsimp only; omega, ho9, by dsimp only; omega⟩ (by dsimp only; omega) ⟨rfl, rfl, rfl, trivial⟩ (by rfl) (by (repeat (first | exact List.nil_sublist _ | exact List.Sublist.slnil | apply List.Sublist.cons_cons | exact List.Sublist.refl _ | apply List.Sublist.cons)))
      · subst hc
        repeat (first | refine c_seq ?_ | (refine c_region (id := 24) ?_; refine sq qm ?_; refine sq (by first | exact dlsst | exact dlssf) ?_; refine sq qm ?_; (first | refine sk ?_ | refine skv ?_ | (refine st_want rfl rfl ?_; refine sq qm ?_)); (first | refine sk ?_ | refine skv ?_ | (refine st_want rfl rfl ?_; refine sq qm ?_)); (first | refine sk ?_ | refine skv ?_ | (refine st_want rfl rfl ?_; refine sq qls ?_)); (first | refine sk ?_ | refine skv ?_ | (refine st_want rfl rfl ?_; refine sq (by first | exact dlsst | exact dlssf) ?_)); refine sq (by first | exact qpt | exact qpf) ?_; refine l_nil ?_) | (refine c_region (id := 29) ?_; refine sq qm ?_; refine sq qa ?_; refine l_nil ?_) | refine n_then ?_ | refine c_block ?_ | refine c_skip ?_ | refine n_block ?_ | refine c_exit ?_ | refine n_then_exit ?_ | refine n_block_eq ?_ | refine n_block_ne rfl ?_ | refine c_ret ?_ | refine n_then_ret ?_ | refine n_block_ret ?_ | refine c_cond_t rfl ?_ | refine c_cond_f rfl ?_ | refine r_succ ?_ )
        have ol : (outL5 ys 17).length = 17 := by unfold outL5; rw [if_neg (by omega)]; simp; omega
        have hfin := out5 d1 (by omega : 17 ≤ ys.length) (by rw [d2, show vl [5] = 5 from rfl]; omega)
        refine fgt (L' := [.sl b3 cap3 3 1 ((outL5 ys 17).map IV)]) (T' := [(2, .slice b3 (outL5 ys 17).length cap3)]) (by exact ⟨by rw [ol]; rfl, trivial⟩) (by (repeat (first | exact List.nil_sublist _ | exact List.Sublist.slnil | apply List.Sublist.cons_cons | exact List.Sublist.refl _ | apply List.Sublist.cons))) ?_
        (first | apply r_ret (b3, cap3, outL5 ys 17) | apply r_end (b3, cap3, outL5 ys 17)); exact rfl; exact rfl; exact (.tmp rfl .nil); exact rfl; exact (by exact (by (repeat (first | exact List.nil_sublist _ | exact List.Sublist.slnil | apply List.Sublist.cons_cons | exact List.Sublist.refl _ | apply List.Sublist.cons)))); exact (new_sl ho3.newc new_nil); refine ⟨by have h9 := ho3.ret; rw [← ol] at h9; exact h9, ⟨hfin.1, ?_, by rw [ol]; omega, by rw [ol]; omega⟩⟩
        rw [hfin.2, d2, show vl [5] = 5 from rfl, ← hV]
        simp only [P130] at hlt ⊢
        omega
end Go.Proofs.YteopejjlhmghbaaDoor
namespace Go.Proofs.YteopejjlhmghbaaDoor
open Go Go.RowKit
set_option linter.unusedVariables false
set_option linter.unusedSimpArgs false
set_option linter.unnecessarySimpa false
theorem radd_l (a1 a2 : Option Addr) (cap1 cap2 : Nat) (xs ys : List Nat) {l1 l2 : Nat} (h1 : xs.length = l1) (h2 : ys.length = l2) (hx : ∀ x ∈ xs, x < 256) (hy : ∀ x ∈ ys, x < 256) (hl1 : xs.length ≤ 10000) (hl2 : ys.length ≤ 10000) (w : World) (hs1 : SlE IV w a1 xs) (hs2 : SlE IV w a2 ys) :
    CA Tryd.prog 46 [.slice a1 l1 cap1, .slice a2 l2 cap2] w (RLe IV 3 (fun zs => (∀ d ∈ zs, d < 256) ∧ vl zs = vl xs + vl ys ∧ xs.length ≤ zs.length ∧ ys.length ≤ zs.length ∧ zs.length ≤ max xs.length ys.length + 1) w) := by
  subst h1; subst h2; exact radd_c a1 a2 cap1 cap2 xs ys hx hy hl1 hl2 w hs1 hs2
theorem rmul_l (a1 a2 : Option Addr) (cap1 cap2 : Nat) (xs ys : List Nat) {l1 l2 : Nat} (h1 : xs.length = l1) (h2 : ys.length = l2) (hx : ∀ x ∈ xs, x < 256) (hy : ∀ x ∈ ys, x < 256) (hl1 : xs.length ≤ 100) (hl2 : ys.length ≤ 100) (w : World) (hs1 : SlE IV w a1 xs) (hs2 : SlE IV w a2 ys) :
    CA Tryd.prog 45 [.slice a1 l1 cap1, .slice a2 l2 cap2] w (RLe IV 3 (fun zs => (∀ d ∈ zs, d < 256) ∧ vl zs = vl xs * vl ys ∧ zs.length = xs.length + ys.length + 1) w) := by
  subst h1; subst h2; exact rmul_c a1 a2 cap1 cap2 xs ys hx hy hl1 hl2 w hs1 hs2
theorem key16 (kb : Nat → Int) : ((List.range 16).map kb).map Int.toNat = [(kb 0).toNat, (kb 1).toNat, (kb 2).toNat, (kb 3).toNat, (kb 4).toNat, (kb 5).toNat, (kb 6).toNat, (kb 7).toNat, (kb 8).toNat, (kb 9).toNat, (kb 10).toNat, (kb 11).toNat, (kb 12).toNat, (kb 13).toNat, (kb 14).toNat, (kb 15).toNat] := rfl
def rcl (kb : Nat → Int) : List Nat := [(kb 0).toNat, (kb 1).toNat, (kb 2).toNat, (kb 3).toNat % 16, (kb 4).toNat / 4 * 4, (kb 5).toNat, (kb 6).toNat, (kb 7).toNat % 16, (kb 8).toNat / 4 * 4, (kb 9).toNat, (kb 10).toNat, (kb 11).toNat % 16, (kb 12).toNat / 4 * 4, (kb 13).toNat, (kb 14).toNat, (kb 15).toNat % 16]
theorem rcl_len (kb : Nat → Int) : (rcl kb).length = 16 := rfl
theorem rcl_lt (kb : Nat → Int) (hk : ∀ i, 0 ≤ kb i ∧ kb i ≤ 255) : ∀ d ∈ rcl kb, d < 256 := by
  have h := fun i => (show (kb i).toNat < 256 by have := hk i; omega)
  intro d hd
  simp only [rcl, List.mem_cons, List.not_mem_nil, or_false] at hd
  rcases hd with rfl | rfl | rfl | rfl | rfl | rfl | rfl | rfl | rfl | rfl | rfl | rfl | rfl | rfl | rfl | rfl
  · have := h 0; omega
  · have := h 1; omega
  · have := h 2; omega
  · have := h 3; omega
  · have := h 4; omega
  · have := h 5; omega
  · have := h 6; omega
  · have := h 7; omega
  · have := h 8; omega
  · have := h 9; omega
  · have := h 10; omega
  · have := h 11; omega
  · have := h 12; omega
  · have := h 13; omega
  · have := h 14; omega
  · have := h 15; omega
def codeB (V : Nat) (i : Nat) : List Value := (List.range 16).map fun q => Value.int .u8 (if q < i then ((V / 256 ^ q % 256 : Nat) : Int) else 0)
theorem codeB_0 (V : Nat) : codeB V 0 = [.int .u8 0, .int .u8 0, .int .u8 0, .int .u8 0, .int .u8 0, .int .u8 0, .int .u8 0, .int .u8 0, .int .u8 0, .int .u8 0, .int .u8 0, .int .u8 0, .int .u8 0, .int .u8 0, .int .u8 0, .int .u8 0] := rfl
theorem codeB_set (V i : Nat) (hi : i < 16) : (codeB V i).set i (.int .u8 ((V / 256 ^ i % 256 : Nat) : Int)) = codeB V (i + 1) := by
  apply List.ext_getElem
  · simp [codeB]
  · intro q h1 h2
    simp only [codeB, List.getElem_set, List.getElem_map, List.getElem_range]
    by_cases e : i = q
    · subst e; rw [if_pos rfl, if_pos (by omega)]
    · rw [if_neg e]
      by_cases h3 : q < i
      · rw [if_pos h3, if_pos (by omega)]
      · rw [if_neg h3, if_neg (by omega)]
def nbl (len : Nat) : Nat := (len + 15) / 16
theorem blk_bytes (xs : List Int) (len j : Nat) (hl : xs.length = len) (hj : 16 * j < len) : ((xs.drop (16 * j)).take (min (16 * j + 16) len - 16 * j)).map Int.toNat = ((xs.map Int.toNat).drop (16 * j)).take 16 := by
  rw [List.map_take, List.map_drop]
  apply List.ext_getElem
  · simp; omega
  · intro q h1 h2
    simp
structure RcI (h0 : Nat) (kb : Nat → Int) (xs : List Int) (len : Nat) (z : Nat × Option Addr × Nat × List Nat × Nat) : Prop where
  j : 16 * z.1 < len + 16
  dg : ∀ d ∈ z.2.2.2.1, d < 256
  v : vl z.2.2.2.1 = accV (vl (rcl kb)) (xs.map Int.toNat) z.1
  ln : z.2.2.2.1.length ≤ 18
  l0 : (z.1 = 0 ∧ z.2.2.2.1 = []) ∨ 17 ≤ z.2.2.2.1.length
  os : OS [] h0 z.2.1 z.2.2.1 z.2.2.2.1.length
  m : h0 ≤ z.2.2.2.2
set_option maxRecDepth 100000 in
set_option maxHeartbeats 4000000 in
theorem rcode_c (kb : Nat → Int) (hk : ∀ i, 0 ≤ kb i ∧ kb i ≤ 255) (a : Option Addr) (len cap0 : Nat) (xs : List Int) (hx : ∀ x ∈ xs, 0 ≤ x ∧ x ≤ 255) (hl : len ≤ 100000) (hxl : xs.length = len) (hcap : len ≤ cap0) (w : World) (hs : SlE (Value.int .u8) w a xs) :
    CA Tryd.prog 27 [.agg (keyA kb), .slice a len cap0] w (RV (.agg (codeB (accV (vl (rcl kb)) (xs.map Int.toNat) (nbl len) + vl (((List.range 16).map fun i => kb (16 + i)).map Int.toNat)) 16).toArray) w) := by
  have hkn := fun i => (show (kb i).toNat < 256 by have := hk i; omega)
  have hk4 := hkn 4
  have hk8 := hkn 8
  have hk12 := hkn 12
  refine enter (L := []) (X := []) Tryd.func27 rfl Tryd.ntmps27 rfl rfl (Has.nil _) ?_
  repeat (first | refine c_seq ?_ | (refine c_region (id := 0) ?_; refine se ?_; refine eb ?_; refine se ?_; refine ea ?_; refine l_nil ?_) | (refine c_region (id := 1) ?_; refine sq qsa ?_; refine se ?_; refine e_callL rfl rfl (by kernel_rfl) rfl (fun w hC hm hL => by exact bytes_c _ _ _ ((List.range 16).map kb) (by simp; intro a _; exact hk a) (by omega) w (SlE.slB' (SlE.blk (enc := Value.int .u8) hL (by (repeat (first | exact List.Mem.head _ | apply List.Mem.tail))) 0 16 (by rfl)) (by simp))) ?_; intro br capr zr mr hr hor hmr; refine sq qa ?_; refine l_nil ?_) | refine n_then ?_ | refine c_block ?_ | refine c_skip ?_ | refine n_block ?_ | refine c_exit ?_ | refine n_then_exit ?_ | refine n_block_eq ?_ | refine n_block_ne rfl ?_ | refine c_ret ?_ | refine n_then_ret ?_ | refine n_block_ret ?_ | refine c_cond_t rfl ?_ | refine c_cond_f rfl ?_ | refine r_succ ?_ )
  subst hr
  rw [key16] at hor ⊢
  rw [show [(kb 0).toNat, (kb 1).toNat, (kb 2).toNat, (kb 3).toNat, (kb 4).toNat, (kb 5).toNat, (kb 6).toNat, (kb 7).toNat, (kb 8).toNat, (kb 9).toNat, (kb 10).toNat, (kb 11).toNat, (kb 12).toNat, (kb 13).toNat, (kb 14).toNat, (kb 15).toNat].length = 16 from rfl] at hor ⊢
  have hnr : ∀ g ∈ (Chunk.sl br 0 0 1 []).foot, w.heap.size ≤ g := fun g hg => by have := hor.new g hg; simpa using this
  obtain ⟨gr, rfl⟩ := hor.some (by simp)
  repeat (first | refine c_seq ?_ | (refine c_region (id := 2) ?_; refine sq qa ?_; refine l_nil ?_) | refine n_then ?_ | refine c_block ?_ | refine c_skip ?_ | refine n_block ?_ | refine c_exit ?_ | refine n_then_exit ?_ | refine n_block_eq ?_ | refine n_block_ne rfl ?_ | refine c_ret ?_ | refine n_then_ret ?_ | refine n_block_ret ?_ | refine c_cond_t rfl ?_ | refine c_cond_f rfl ?_ | refine r_succ ?_ )
  refine c_rounds 5 ?_
  repeat (first | refine c_seq ?_ | (refine c_region (id := 2) ?_; refine sq qa ?_; refine l_nil ?_) | (refine c_region (id := 3) ?_; refine sq qm ?_; refine sq qlss ?_; refine l_nil ?_) | (refine c_region (id := 4) ?_; refine sq qm ?_; refine sq qadd64 ?_; refine sq qa ?_; refine l_nil ?_) | (refine c_region (id := 5) ?_; refine sq qm ?_; refine sq qm ?_; refine sq qm ?_; refine sq qm ?_; refine sq qis ?_; refine sq ql ?_; refine sq (by exact Qt.cast (v' := .int .i64 (((kb 3).toNat % 16 : Nat) : Int)) (congrArg (Value.int .i64) (by omega)) (q_rem rfl rfl (by omega) (by omega))) ?_; refine sq qis ?_; refine se ?_; refine e_storeM IV _ ((kb 3).toNat % 16) rfl rfl rfl (by (repeat (first | exact Pl.here | apply Pl.there))) (by simp) (.inr (hnr _ (by simp [Chunk.foot]))) ?_; refine l_nil ?_) | refine n_then ?_ | refine c_block ?_ | refine c_skip ?_ | refine n_block ?_ | refine c_exit ?_ | refine n_then_exit ?_ | refine n_block_eq ?_ | refine n_block_ne rfl ?_ | refine c_ret ?_ | refine n_then_ret ?_ | refine n_block_ret ?_ | refine c_cond_t rfl ?_ | refine c_cond_f rfl ?_ | refine r_succ ?_ )
  repeat (first | refine c_seq ?_ | (refine c_region (id := 2) ?_; refine sq qa ?_; refine l_nil ?_) | (refine c_region (id := 3) ?_; refine sq qm ?_; refine sq qlss ?_; refine l_nil ?_) | (refine c_region (id := 4) ?_; refine sq qm ?_; refine sq qadd64 ?_; refine sq qa ?_; refine l_nil ?_) | (refine c_region (id := 5) ?_; refine sq qm ?_; refine sq qm ?_; refine sq qm ?_; refine sq qm ?_; refine sq qis ?_; refine sq ql ?_; refine sq (by exact Qt.cast (v' := .int .i64 (((kb 7).toNat % 16 : Nat) : Int)) (congrArg (Value.int .i64) (by omega)) (q_rem rfl rfl (by omega) (by omega))) ?_; refine sq qis ?_; refine se ?_; refine e_storeM IV _ ((kb 7).toNat % 16) rfl rfl rfl (by (repeat (first | exact Pl.here | apply Pl.there))) (by simp) (.inr (hnr _ (by simp [Chunk.foot]))) ?_; refine l_nil ?_) | refine n_then ?_ | refine c_block ?_ | refine c_skip ?_ | refine n_block ?_ | refine c_exit ?_ | refine n_then_exit ?_ | refine n_block_eq ?_ | refine n_block_ne rfl ?_ | refine c_ret ?_ | refine n_then_ret ?_ | refine n_block_ret ?_ | refine c_cond_t rfl ?_ | refine c_cond_f rfl ?_ | refine r_succ ?_ )
  repeat (first | refine c_seq ?_ | (refine c_region (id := 2) ?_; refine sq qa ?_; refine l_nil ?_) | (refine c_region (id := 3) ?_; refine sq qm ?_; refine sq qlss ?_; refine l_nil ?_) | (refine c_region (id := 4) ?_; refine sq qm ?_; refine sq qadd64 ?_; refine sq qa ?_; refine l_nil ?_) | (refine c_region (id := 5) ?_; refine sq qm ?_; refine sq qm ?_; refine sq qm ?_; refine sq qm ?_; refine sq qis ?_; refine sq ql ?_; refine sq (by exact Qt.cast (v' := .int .i64 (((kb 11).toNat % 16 : Nat) : Int)) (congrArg (Value.int .i64) (by omega)) (q_rem rfl rfl (by omega) (by omega))) ?_; refine sq qis ?_; refine se ?_; refine e_storeM IV _ ((kb 11).toNat % 16) rfl rfl rfl (by (repeat (first | exact Pl.here | apply Pl.there))) (by simp) (.inr (hnr _ (by simp [Chunk.foot]))) ?_; refine l_nil ?_) | refine n_then ?_ | refine c_block ?_ | refine c_skip ?_ | refine n_block ?_ | refine c_exit ?_ | refine n_then_exit ?_ | refine n_block_eq ?_ | refine n_block_ne rfl ?_ | refine c_ret ?_ | refine n_then_ret ?_ | refine n_block_ret ?_ | refine c_cond_t rfl ?_ | refine c_cond_f rfl ?_ | refine r_succ ?_ )
  repeat (first | refine c_seq ?_ | (refine c_region (id := 2) ?_; refine sq qa ?_; refine l_nil ?_) | (refine c_region (id := 3) ?_; refine sq qm ?_; refine sq qlss ?_; refine l_nil ?_) | (refine c_region (id := 4) ?_; refine sq qm ?_; refine sq qadd64 ?_; refine sq qa ?_; refine l_nil ?_) | (refine c_region (id := 5) ?_; refine sq qm ?_; refine sq qm ?_; refine sq qm ?_; refine sq qm ?_; refine sq qis ?_; refine sq ql ?_; refine sq (by exact Qt.cast (v' := .int .i64 (((kb 15).toNat % 16 : Nat) : Int)) (congrArg (Value.int .i64) (by omega)) (q_rem rfl rfl (by omega) (by omega))) ?_; refine sq qis ?_; refine se ?_; refine e_storeM IV _ ((kb 15).toNat % 16) rfl rfl rfl (by (repeat (first | exact Pl.here | apply Pl.there))) (by simp) (.inr (hnr _ (by simp [Chunk.foot]))) ?_; refine l_nil ?_) | refine n_then ?_ | refine c_block ?_ | refine c_skip ?_ | refine n_block ?_ | refine c_exit ?_ | refine n_then_exit ?_ | refine n_block_eq ?_ | refine n_block_ne rfl ?_ | refine c_ret ?_ | refine n_then_ret ?_ | refine n_block_ret ?_ | refine c_cond_t rfl ?_ | refine c_cond_f rfl ?_ | refine r_succ ?_ )
  repeat (first | refine c_seq ?_ | (refine c_region (id := 2) ?_; refine sq qa ?_; refine l_nil ?_) | (refine c_region (id := 3) ?_; refine sq qm ?_; refine sq qlss ?_; refine l_nil ?_) | (refine c_region (id := 4) ?_; refine sq qm ?_; refine sq qadd64 ?_; refine sq qa ?_; refine l_nil ?_) | (refine c_region (id := 6) ?_; refine sq qa ?_; refine l_nil ?_) | refine n_then ?_ | refine c_block ?_ | refine c_skip ?_ | refine n_block ?_ | refine c_exit ?_ | refine n_then_exit ?_ | refine n_block_eq ?_ | refine n_block_ne rfl ?_ | refine c_ret ?_ | refine n_then_ret ?_ | refine n_block_ret ?_ | refine c_cond_t rfl ?_ | refine c_cond_f rfl ?_ | refine r_succ ?_ )
  refine c_rounds 4 ?_
  repeat (first | refine c_seq ?_ | (refine c_region (id := 6) ?_; refine sq qa ?_; refine l_nil ?_) | (refine c_region (id := 7) ?_; refine sq qm ?_; refine sq qlss ?_; refine l_nil ?_) | (refine c_region (id := 8) ?_; refine sq qm ?_; refine sq qadd64 ?_; refine sq qa ?_; refine l_nil ?_) | (refine c_region (id := 9) ?_; refine sq qm ?_; refine sq qm ?_; refine sq qm ?_; refine sq qm ?_; refine sq qis ?_; refine sq ql ?_; refine sq (by exact Qt.cast (v' := .int .i64 (((kb 4).toNat / 4 : Nat) : Int)) (congrArg (Value.int .i64) (by omega)) (q_quo rfl rfl (by omega) (by omega) (by simp only [IntKind.wrap_i64]; omega))) ?_; refine sq (by exact Qt.cast (v' := .int .i64 (((kb 4).toNat / 4 * 4 : Nat) : Int)) (congrArg (Value.int .i64) (by omega)) (q_mul64 rfl rfl ⟨by omega, by omega⟩ rfl)) ?_; refine sq qis ?_; refine se ?_; refine e_storeM IV _ ((kb 4).toNat / 4 * 4) rfl rfl rfl (by (repeat (first | exact Pl.here | apply Pl.there))) (by simp) (.inr (hnr _ (by simp [Chunk.foot]))) ?_; refine l_nil ?_) | refine n_then ?_ | refine c_block ?_ | refine c_skip ?_ | refine n_block ?_ | refine c_exit ?_ | refine n_then_exit ?_ | refine n_block_eq ?_ | refine n_block_ne rfl ?_ | refine c_ret ?_ | refine n_then_ret ?_ | refine n_block_ret ?_ | refine c_cond_t rfl ?_ | refine c_cond_f rfl ?_ | refine r_succ ?_ )
  repeat (first | refine c_seq ?_ | (refine c_region (id := 6) ?_; refine sq qa ?_; refine l_nil ?_) | (refine c_region (id := 7) ?_; refine sq qm ?_; refine sq qlss ?_; refine l_nil ?_) | (refine c_region (id := 8) ?_; refine sq qm ?_; refine sq qadd64 ?_; refine sq qa ?_; refine l_nil ?_) | (refine c_region (id := 9) ?_; refine sq qm ?_; refine sq qm ?_; refine sq qm ?_; refine sq qm ?_; refine sq qis ?_; refine sq ql ?_; refine sq (by exact Qt.cast (v' := .int .i64 (((kb 8).toNat / 4 : Nat) : Int)) (congrArg (Value.int .i64) (by omega)) (q_quo rfl rfl (by omega) (by omega) (by simp only [IntKind.wrap_i64]; omega))) ?_; refine sq (by exact Qt.cast (v' := .int .i64 (((kb 8).toNat / 4 * 4 : Nat) : Int)) (congrArg (Value.int .i64) (by omega)) (q_mul64 rfl rfl ⟨by omega, by omega⟩ rfl)) ?_; refine sq qis ?_; refine se ?_; refine e_storeM IV _ ((kb 8).toNat / 4 * 4) rfl rfl rfl (by (repeat (first | exact Pl.here | apply Pl.there))) (by simp) (.inr (hnr _ (by simp [Chunk.foot]))) ?_; refine l_nil ?_) | refine n_then ?_ | refine c_block ?_ | refine c_skip ?_ | refine n_block ?_ | refine c_exit ?_ | refine n_then_exit ?_ | refine n_block_eq ?_ | refine n_block_ne rfl ?_ | refine c_ret ?_ | refine n_then_ret ?_ | refine n_block_ret ?_ | refine c_cond_t rfl ?_ | refine c_cond_f rfl ?_ | refine r_succ ?_ )
  repeat (first | refine c_seq ?_ | (refine c_region (id := 6) ?_; refine sq qa ?_; refine l_nil ?_) | (refine c_region (id := 7) ?_; refine sq qm ?_; refine sq qlss ?_; refine l_nil ?_) | (refine c_region (id := 8) ?_; refine sq qm ?_; refine sq qadd64 ?_; refine sq qa ?_; refine l_nil ?_) | (refine c_region (id := 9) ?_; refine sq qm ?_; refine sq qm ?_; refine sq qm ?_; refine sq qm ?_; refine sq qis ?_; refine sq ql ?_; refine sq (by exact Qt.cast (v' := .int .i64 (((kb 12).toNat / 4 : Nat) : Int)) (congrArg (Value.int .i64) (by omega)) (q_quo rfl rfl (by omega) (by omega) (by simp only [IntKind.wrap_i64]; omega))) ?_; refine sq (by exact Qt.cast (v' := .int .i64 (((kb 12).toNat / 4 * 4 : Nat) : Int)) (congrArg (Value.int .i64) (by omega)) (q_mul64 rfl rfl ⟨by omega, by omega⟩ rfl)) ?_; refine sq qis ?_; refine se ?_; refine e_storeM IV _ ((kb 12).toNat / 4 * 4) rfl rfl rfl (by (repeat (first | exact Pl.here | apply Pl.there))) (by simp) (.inr (hnr _ (by simp [Chunk.foot]))) ?_; refine l_nil ?_) | refine n_then ?_ | refine c_block ?_ | refine c_skip ?_ | refine n_block ?_ | refine c_exit ?_ | refine n_then_exit ?_ | refine n_block_eq ?_ | refine n_block_ne rfl ?_ | refine c_ret ?_ | refine n_then_ret ?_ | refine n_block_ret ?_ | refine c_cond_t rfl ?_ | refine c_cond_f rfl ?_ | refine r_succ ?_ )
  repeat (first | refine c_seq ?_ | (refine c_region (id := 7) ?_; refine sq qm ?_; refine sq qlss ?_; refine l_nil ?_) | (refine c_region (id := 10) ?_; refine sq qa ?_; refine l_nil ?_) | (refine c_region (id := 11) ?_; refine sq qa ?_; refine l_nil ?_) | refine n_then ?_ | refine c_block ?_ | refine c_skip ?_ | refine n_block ?_ | refine c_exit ?_ | refine n_then_exit ?_ | refine n_block_eq ?_ | refine n_block_ne rfl ?_ | refine c_ret ?_ | refine n_then_ret ?_ | refine n_block_ret ?_ | refine c_cond_t rfl ?_ | refine c_cond_f rfl ?_ | refine r_succ ?_ )
  obtain ⟨h16, hh16⟩ : ∃ x : Nat, x = 16 := ⟨_, rfl⟩
  refine add_nil 3 1 ?_
  skip
  refine c_loop (γ := Nat × Option Addr × Nat × List Nat × Nat) (fun z => [(9, .int .i64 ((16 * z.1 : Nat) : Int)), (8, .slice z.2.1 z.2.2.2.1.length z.2.2.1), (5, .slice (some ⟨gr, 0, none⟩) 16 capr), (1, .slice a len cap0), (2, .pointer (some ⟨w.heap.size, 0, none⟩)), (4, .pointer (some ⟨w.heap.size + 1, 0, none⟩))]) (fun z => z.2.2.2.2) (fun z => [.sl z.2.1 z.2.2.1 3 1 (z.2.2.2.1.map IV), .sl (some ⟨gr, 0, none⟩) capr 3 1 ((rcl kb).map IV), .blk (w.heap.size + 1) (.cells #[.int .u8 0, .int .u8 0, .int .u8 0, .int .u8 0, .int .u8 0, .int .u8 0, .int .u8 0, .int .u8 0, .int .u8 0, .int .u8 0, .int .u8 0, .int .u8 0, .int .u8 0, .int .u8 0, .int .u8 0, .int .u8 0] 39 (0, 0)), .blk w.heap.size (.cells (keyA kb) 22 (0, 0))]) (RcI w.heap.size kb xs len) (fun z => len + 16 - 16 * z.1) ⟨0, none, 0, [], mr⟩ ⟨by simp, by simp, by simp [vl, accV], by simp, .inl ⟨rfl, rfl⟩, OS.nil _ _, by dsimp only; omega⟩ ⟨rfl, rfl, rfl, rfl, rfl, rfl, trivial⟩ rfl (by (repeat (first | exact List.nil_sublist _ | exact List.Sublist.slnil | apply List.Sublist.cons_cons | exact List.Sublist.refl _ | apply List.Sublist.cons))) ?_
  rintro ⟨j, b, cap, zs, mm⟩ ⟨hj, hzd, hV, hzl, hz0, ho, hmm⟩
  dsimp only at hj hzd hV hzl hz0 ho hmm ⊢
  repeat (first | refine c_seq ?_ | (refine c_region (id := 12) ?_; refine sq qm ?_; refine sq qm ?_; refine sq qls ?_; refine sq qlss ?_; refine l_nil ?_) | refine n_then ?_ | refine c_block ?_ | refine c_skip ?_ | refine n_block ?_ | refine c_exit ?_ | refine n_then_exit ?_ | refine n_block_eq ?_ | refine n_block_ne rfl ?_ | refine c_ret ?_ | refine n_then_ret ?_ | refine n_block_ret ?_ | refine c_cond_t rfl ?_ | refine c_cond_f rfl ?_ | refine r_succ ?_ )
  refine c_cond_dec rfl (fun hlt => ?_) (fun hlt => ?_)
  · have hjl : 16 * j < len := by omega
    have hbl9 : ∀ x ∈ ((xs.drop (16 * j)).take (min (16 * j + 16) len - 16 * j)), 0 ≤ x ∧ x ≤ 255 := fun x hq => hx x (List.mem_of_mem_drop (List.mem_of_mem_take hq))
    have hB1 : ∀ x ∈ (((xs.drop (16 * j)).take (min (16 * j + 16) len - 16 * j)).map Int.toNat) ++ [1], x < 256 := fun x hq => by
      rcases List.mem_append.1 hq with hq | hq
      · obtain ⟨y, hy, rfl⟩ := List.mem_map.1 hq
        have := hbl9 y hy; omega
      · simp only [List.mem_singleton] at hq; omega
    have hBl : ((xs.drop (16 * j)).take (min (16 * j + 16) len - 16 * j)).length ≤ 16 := by simp; omega
    have hlB : (((xs.drop (16 * j)).take (min (16 * j + 16) len - 16 * j)).map Int.toNat ++ [1]).length = (((xs.drop (16 * j)).take (min (16 * j + 16) len - 16 * j)).map Int.toNat).length + 1 := by simp only [List.length_append, List.length_singleton]
    have hrl := rcl_len kb
    have hBm : (((xs.drop (16 * j)).take (min (16 * j + 16) len - 16 * j)).map Int.toNat).length ≤ 16 := by rw [List.length_map]; exact hBl
    repeat (first | refine c_seq ?_ | (refine c_region (id := 13) ?_; refine sq qm ?_; refine sq (by exact Qt.cast (v' := .int .i64 ((16 * (j + 1) : Nat) : Int)) (congrArg (Value.int .i64) (by omega)) (q_add64 rfl rfl ⟨by omega, by omega⟩ rfl)) ?_; refine sq qa ?_; refine l_nil ?_) | (refine c_region (id := 14) ?_; refine sq qm ?_; refine sq (by exact Qt.cast (v' := .int .i64 ((16 * j + 16 : Nat) : Int)) (congrArg (Value.int .i64) (by omega)) (q_add64 rfl rfl ⟨by omega, by omega⟩ rfl)) ?_; refine sq qm ?_; refine sq qls ?_; refine sq (by exact Qt.cast (v' := .int .i64 ((min (16 * j + 16) len : Nat) : Int)) (congrArg (Value.int .i64) (by split <;> omega)) (q_min rfl rfl)) ?_; refine sq qa ?_; refine l_nil ?_) | refine n_then ?_ | refine c_block ?_ | refine c_skip ?_ | refine n_block ?_ | refine c_exit ?_ | refine n_then_exit ?_ | refine n_block_eq ?_ | refine n_block_ne rfl ?_ | refine c_ret ?_ | refine n_then_ret ?_ | refine n_block_ret ?_ | refine c_cond_t rfl ?_ | refine c_cond_f rfl ?_ | refine r_succ ?_ )
    refine c_region (id := 15) ?_
    refine sq qm ?_
    refine sq qm ?_
    refine sq qm ?_
    refine sq qm ?_
    refine sq (by exact q_slice (len' := min (16 * j + 16) len - 16 * j) (cap' := cap0 - 16 * j) rfl rfl rfl (by omega) (by omega) (by omega) (by omega) (by rw [Int.toNat_natCast]) (by omega) (by omega)) ?_
    refine se ?_; refine e_callL rfl rfl (by kernel_rfl) rfl (fun w hC hm hL => by exact bytes_c _ _ _ ((xs.drop (16 * j)).take (min (16 * j + 16) len - 16 * j)) hbl9 (by omega) w (SlE.slB' ((hs.ch0 hC).part (16 * j) (min (16 * j + 16) len) cap0 (by omega) (by omega) (by omega)) (by simp; omega))) ?_; intro b1 cap1 zb m1 hzb ho1 hm1; subst hzb
    refine se ?_; refine ebs ?_
    refine se ?_; refine e_appM IV (((xs.drop (16 * j)).take (min (16 * j + 16) len - 16 * j)).map Int.toNat) 1 rfl rfl rfl (by (repeat (first | exact Rm.here | apply Rm.there))) (by (repeat (first | exact List.Mem.head _ | apply List.Mem.tail))) (by simp) ho1 (by rfl) (by omega) (by omega) ?_; intro b2 cap2 m2 ho2 hm2
    refine se ?_; refine e_callL rfl rfl (by kernel_rfl) rfl (fun w hC hm hL => by exact radd_l _ _ _ _ zs (((xs.drop (16 * j)).take (min (16 * j + 16) len - 16 * j)).map Int.toNat ++ [1]) rfl (by simp) hzd hB1 (by omega) (by simp only [List.length_append, List.length_singleton]; omega) w (SlE.own hL (by (repeat (first | exact List.Mem.head _ | apply List.Mem.tail))) ho) (SlE.own hL (by (repeat (first | exact List.Mem.head _ | apply List.Mem.tail))) ho2)) ?_; intro b3 cap3 z3 m3 hz3 ho3 hm3
    refine sq qm ?_
    refine se ?_; refine e_callL rfl rfl (by kernel_rfl) rfl (fun w hC hm hL => by exact rmul_l _ _ _ _ z3 (rcl kb) rfl (rcl_len kb) hz3.1 (rcl_lt kb hk) (by omega) (by rw [rcl_len]; omega) w (SlE.own hL (by (repeat (first | exact List.Mem.head _ | apply List.Mem.tail))) ho3) (SlE.own hL (by (repeat (first | exact List.Mem.head _ | apply List.Mem.tail))) hor)) ?_; intro b4 cap4 z4 m4 hz4 ho4 hm4
    refine se ?_; refine e_callL rfl rfl (by kernel_rfl) rfl (fun w hC hm hL => by exact rest_c _ _ z4 hz4.1 (by omega) (by omega) w (hL.sub (by (repeat (first | exact List.nil_sublist _ | exact List.Sublist.slnil | apply List.Sublist.cons_cons | exact List.Sublist.refl _ | apply List.Sublist.cons)))) (ho4.some (by omega))) ?_; intro b5 cap5 z5 m5 hz5 ho5 hm5
    refine sq qa ?_
    refine l_nil ?_
    repeat (first | refine c_seq ?_ | (refine c_region (id := 13) ?_; refine sq qm ?_; refine sq (by exact Qt.cast (v' := .int .i64 ((16 * (j + 1) : Nat) : Int)) (congrArg (Value.int .i64) (by omega)) (q_add64 rfl rfl ⟨by omega, by omega⟩ rfl)) ?_; refine sq qa ?_; refine l_nil ?_) | refine n_then ?_ | refine c_block ?_ | refine c_skip ?_ | refine n_block ?_ | refine c_exit ?_ | refine n_then_exit ?_ | refine n_block_eq ?_ | refine n_block_ne rfl ?_ | refine c_ret ?_ | refine n_then_ret ?_ | refine n_block_ret ?_ | refine c_cond_t rfl ?_ | refine c_cond_f rfl ?_ | refine r_succ ?_ )
    refine c_round ⟨j + 1, b5, cap5, z5, m5⟩ ⟨by dsimp only; omega, hz5.1, ?_, hz5.2.2.2, .inr hz5.2.2.1, ho5, by dsimp only; omega⟩ (by dsimp only; omega) ⟨rfl, rfl, rfl, rfl, rfl, rfl, trivial⟩ (by rfl) (by (repeat (first | exact List.nil_sublist _ | exact List.Sublist.slnil | apply List.Sublist.cons_cons | exact List.Sublist.refl _ | apply List.Sublist.cons)))
    dsimp only
    rw [hz5.2.1, hz4.2.1, hz3.2.1, hV, vl_snoc, blk_bytes xs len j hxl hjl]
    simp only [accV, blkV, Nat.mul_one]
  · have hjn : j = nbl len := by unfold nbl; omega
    subst hjn
    repeat (first | refine c_seq ?_ | (refine c_region (id := 16) ?_; refine sq qm ?_; refine sq (by exact q_slice_arr (o' := 16) (len' := 16) (cap' := 16) rfl rfl rfl (by omega) (by omega) (by omega) (by simp) (by simp) (by simp)) ?_; refine se ?_; refine e_callL rfl rfl (by kernel_rfl) rfl (fun w hC hm hL => by exact bytes_c _ _ _ ((List.range 16).map fun i => kb (16 + i)) (by simp; intro a _; exact hk _) (by omega) w (SlE.slB' (SlE.blk (enc := Value.int .u8) hL (by (repeat (first | exact List.Mem.head _ | apply List.Mem.tail))) 16 16 (by rfl)) (by simp))) ?_; intro b6 cap6 z6 m6 hz6 ho6 hm6; subst hz6; refine se ?_; refine e_callL rfl rfl (by kernel_rfl) rfl (fun w hC hm hL => by exact radd_c _ _ _ _ zs _ hzd (by intro d hd; obtain ⟨y, hy, rfl⟩ := List.mem_map.1 hd; obtain ⟨q, _, rfl⟩ := List.mem_map.1 hy; have := hk (16 + q); omega) (by omega) (by simp) w (SlE.own hL (by (repeat (first | exact List.Mem.head _ | apply List.Mem.tail))) ho) (SlE.own hL (by (repeat (first | exact List.Mem.head _ | apply List.Mem.tail))) ho6)) ?_; intro b7 cap7 z7 m7 hz7 ho7 hm7; refine sq qa ?_; refine l_nil ?_) | refine n_then ?_ | refine c_block ?_ | refine c_skip ?_ | refine n_block ?_ | refine c_exit ?_ | refine n_then_exit ?_ | refine n_block_eq ?_ | refine n_block_ne rfl ?_ | refine c_ret ?_ | refine n_then_ret ?_ | refine n_block_ret ?_ | refine c_cond_t rfl ?_ | refine c_cond_f rfl ?_ | refine r_succ ?_ )
    obtain ⟨V, hVV⟩ : ∃ V, V = vl z7 := ⟨_, rfl⟩
    have hVf : V = accV (vl (rcl kb)) (xs.map Int.toNat) (nbl len) + vl (((List.range 16).map fun i => kb (16 + i)).map Int.toNat) := by rw [hVV, hz7.2.1, hV]
    rw [← hVf]
    repeat (first | refine c_seq ?_ | (refine c_region (id := 17) ?_; refine se ?_; refine ea ?_; refine l_nil ?_) | (refine c_region (id := 18) ?_; refine sq qa ?_; refine l_nil ?_) | refine n_then ?_ | refine c_block ?_ | refine c_skip ?_ | refine n_block ?_ | refine c_exit ?_ | refine n_then_exit ?_ | refine n_block_eq ?_ | refine n_block_ne rfl ?_ | refine c_ret ?_ | refine n_then_ret ?_ | refine n_block_ret ?_ | refine c_cond_t rfl ?_ | refine c_cond_f rfl ?_ | refine r_succ ?_ )
    refine chg (L' := [.blk m7 (.cells (codeB V 0).toArray 39 (0, 0)), .sl b7 cap7 3 1 (z7.map IV), .sl b6 cap6 3 1 (_ : List Value), .sl b cap 3 1 (zs.map IV), .sl (some ⟨gr, 0, none⟩) capr 3 1 ((rcl kb).map IV), .blk (w.heap.size + 1) (.cells #[.int .u8 0, .int .u8 0, .int .u8 0, .int .u8 0, .int .u8 0, .int .u8 0, .int .u8 0, .int .u8 0, .int .u8 0, .int .u8 0, .int .u8 0, .int .u8 0, .int .u8 0, .int .u8 0, .int .u8 0, .int .u8 0] 39 (0, 0)), .blk w.heap.size (.cells (keyA kb) 22 (0, 0))]) (by rw [codeB_0]) ?_
    refine c_loop (γ := Nat) (fun i => [(12, .int .i64 i), (11, .pointer (some ⟨m7, 0, none⟩)), (8, .slice b7 z7.length cap7), (4, .pointer (some ⟨w.heap.size + 1, 0, none⟩))]) (fun _ => m7 + 1) (fun i => [.blk m7 (.cells (codeB V i).toArray 39 (0, 0)), .sl b7 cap7 3 1 (z7.map IV), .blk (w.heap.size + 1) (.cells #[.int .u8 0, .int .u8 0, .int .u8 0, .int .u8 0, .int .u8 0, .int .u8 0, .int .u8 0, .int .u8 0, .int .u8 0, .int .u8 0, .int .u8 0, .int .u8 0, .int .u8 0, .int .u8 0, .int .u8 0, .int .u8 0] 39 (0, 0))]) (fun i => i ≤ 16) (fun i => 16 - i) 0 (by simp) ⟨rfl, rfl, rfl, rfl, trivial⟩ rfl (by (repeat (first | exact List.nil_sublist _ | exact List.Sublist.slnil | apply List.Sublist.cons_cons | exact List.Sublist.refl _ | apply List.Sublist.cons))) ?_
    intro i hi
    have hz7l : 16 ≤ z7.length := by have := hz7.2.2.2.1; simpa using this
    obtain ⟨g7, rfl⟩ := ho7.some (by omega)
    by_cases h9 : i < 16
    · have hz := nthI (xs := z7) (i := i) (by omega)
      have hdg := vl_digit z7 hz7.1 i
      rw [← hVV] at hdg
      obtain ⟨D, hD⟩ : ∃ D, D = V / 256 ^ i % 256 := ⟨_, rfl⟩
      have hD2 : D < 256 := by rw [hD]; exact Nat.mod_lt _ (by omega)
      rw [← hD] at hdg
      repeat (first | refine c_seq ?_ | (refine c_region (id := 19) ?_; refine sq qm ?_; refine sq (by first | exact dlsst | exact dlssf) ?_; refine sq qm ?_; (first | refine sk ?_ | refine skv ?_ | (refine st_want rfl rfl ?_; refine sq qm ?_)); (first | refine sk ?_ | refine skv ?_ | (refine st_want rfl rfl ?_; refine sq qm ?_)); (first | refine sk ?_ | refine skv ?_ | (refine st_want rfl rfl ?_; refine sq qls ?_)); (first | refine sk ?_ | refine skv ?_ | (refine st_want rfl rfl ?_; refine sq (by first | exact dlsst | exact dlssf) ?_)); refine sq (by first | exact qpt | exact qpf) ?_; refine l_nil ?_) | (refine c_region (id := 20) ?_; refine sq qm ?_; refine sq qadd64 ?_; refine sq qa ?_; refine l_nil ?_) | (refine c_region (id := 21) ?_; refine sq qm ?_; refine sq qm ?_; refine sq qm ?_; refine sq (by exact q_indexAddr_sl (o' := i) rfl rfl (by omega) (by omega) (by omega)) ?_; refine sq ql ?_; refine sq (by exact Qt.cast (v' := .int .u8 ((D : Nat) : Int)) (congrArg (Value.int .u8) (by omega)) (q_conv8 rfl)) ?_; refine sq (by exact q_indexAddr_arr (o' := i) rfl rfl (by omega) (by omega) (by omega)) ?_; refine se ?_; refine e_store1l (l := codeB V i) (l' := codeB V (i + 1)) rfl rfl rfl (by (repeat (first | exact List.Mem.head _ | apply List.Mem.tail))) (by rw [setL_eq, hD]; exact codeB_set V i h9) (by (repeat (first | exact Pl.here | apply Pl.there))) (by simp [codeB]; omega) (by first | (left; simp; done) | (right; omega)) ?_; refine l_nil ?_) | refine n_then ?_ | refine c_block ?_ | refine c_skip ?_ | refine n_block ?_ | refine c_exit ?_ | refine n_then_exit ?_ | refine n_block_eq ?_ | refine n_block_ne rfl ?_ | refine c_ret ?_ | refine n_then_ret ?_ | refine n_block_ret ?_ | refine c_cond_t rfl ?_ | refine c_cond_f rfl ?_ | refine r_succ ?_ )
      refine c_round (i + 1) (by omega) (by omega) ⟨rfl, rfl, rfl, rfl, trivial⟩ (by rfl) (by (repeat (first | exact List.nil_sublist _ | exact List.Sublist.slnil | apply List.Sublist.cons_cons | exact List.Sublist.refl _ | apply List.Sublist.cons)))
    · obtain rfl : i = 16 := by omega
      repeat (first | refine c_seq ?_ | (refine c_region (id := 19) ?_; refine sq qm ?_; refine sq (by first | exact dlsst | exact dlssf) ?_; refine sq qm ?_; (first | refine sk ?_ | refine skv ?_ | (refine st_want rfl rfl ?_; refine sq qm ?_)); (first | refine sk ?_ | refine skv ?_ | (refine st_want rfl rfl ?_; refine sq qm ?_)); (first | refine sk ?_ | refine skv ?_ | (refine st_want rfl rfl ?_; refine sq qls ?_)); (first | refine sk ?_ | refine skv ?_ | (refine st_want rfl rfl ?_; refine sq (by first | exact dlsst | exact dlssf) ?_)); refine sq (by first | exact qpt | exact qpf) ?_; refine l_nil ?_) | (refine c_region (id := 22) ?_; refine sq (by first | exact qlb | exact qlr) ?_; refine se ?_; refine esa ?_; refine l_nil ?_) | refine n_then ?_ | refine c_block ?_ | refine c_skip ?_ | refine n_block ?_ | refine c_exit ?_ | refine n_then_exit ?_ | refine n_block_eq ?_ | refine n_block_ne rfl ?_ | refine c_ret ?_ | refine n_then_ret ?_ | refine n_block_ret ?_ | refine c_cond_t rfl ?_ | refine c_cond_f rfl ?_ | refine r_succ ?_ )
      (first | apply r_ret () | apply r_end ()); exact rfl; exact rfl; exact (.row rfl (by (repeat (first | exact List.Mem.head _ | apply List.Mem.tail))) (by rfl) .nil); exact rfl; exact (List.nil_sublist _); exact new_nil; exact trivial
end Go.Proofs.YteopejjlhmghbaaDoor
namespace Go.Proofs.YteopejjlhmghbaaDoor
open Go Go.RowKit
set_option linter.unusedVariables false
set_option linter.unusedSimpArgs false
def shF (f : Nat → Int) (bl i : Nat) : Int := if i < bl then f i else if i = bl then 1 else 0
theorem shF_bd (f : Nat → Int) (hf : ∀ i, 0 ≤ f i ∧ f i ≤ 255) (bl i : Nat) : 0 ≤ shF f bl i ∧ shF f bl i ≤ 255 := by
  unfold shF
  split
  · exact hf i
  · split <;> omega
def shA (f : Nat → Int) (bl : Nat) : Array Value := #[.int .u8 (shF f bl 0), .int .u8 (shF f bl 1), .int .u8 (shF f bl 2), .int .u8 (shF f bl 3), .int .u8 (shF f bl 4), .int .u8 (shF f bl 5), .int .u8 (shF f bl 6), .int .u8 (shF f bl 7), .int .u8 (shF f bl 8), .int .u8 (shF f bl 9), .int .u8 (shF f bl 10), .int .u8 (shF f bl 11), .int .u8 (shF f bl 12), .int .u8 (shF f bl 13), .int .u8 (shF f bl 14), .int .u8 (shF f bl 15)]
theorem sh_eq (f : Nat → Int) (bl : Nat) (hb : bl < 16) : (setA #[.int .u8 0, .int .u8 0, .int .u8 0, .int .u8 0, .int .u8 0, .int .u8 0, .int .u8 0, .int .u8 0, .int .u8 0, .int .u8 0, .int .u8 0, .int .u8 0, .int .u8 0, .int .u8 0, .int .u8 0, .int .u8 0] 0 ((List.range bl).map fun i => Value.int .u8 (f i))).setIfInBounds bl (.int .u8 1) = shA f bl := by
  have hA : (shA f bl).toList = (List.range 16).map fun i => Value.int .u8 (shF f bl i) := rfl
  have hZ : (#[.int .u8 0, .int .u8 0, .int .u8 0, .int .u8 0, .int .u8 0, .int .u8 0, .int .u8 0, .int .u8 0, .int .u8 0, .int .u8 0, .int .u8 0, .int .u8 0, .int .u8 0, .int .u8 0, .int .u8 0, .int .u8 0] : Array Value).toList = List.replicate 16 (.int .u8 0) := rfl
  apply Array.ext'
  rw [Array.toList_setIfInBounds, setA_toList _ _ _ (by simp; omega), hA, hZ]
  apply List.ext_getElem
  · simp; omega
  · intro i h1 h2
    have hi : i < 16 := by simpa using h2
    simp only [List.getElem_set, List.getElem_map, List.getElem_range, List.take_zero, List.nil_append]
    by_cases e : bl = i
    · subst e
      rw [if_pos rfl]
      simp [shF]
    · have e' : ¬ i = bl := fun h => e h.symm
      rw [if_neg e]
      by_cases h3 : i < bl
      · rw [List.getElem_append_left (by simpa using h3)]
        simp [shF, h3]
      · rw [List.getElem_append_right (by simp; omega), show shF f bl i = 0 by simp [shF, h3, e']]
        simp only [List.getElem_drop, List.getElem_replicate]
theorem allOne_map (f : Nat → Int) (bl : Nat) : allOne ((List.range bl).map fun i => Value.int .u8 (f i)) = true := by
  generalize List.range bl = l
  induction l with
  | nil => rfl
  | cons i l ih => simpa [allOne, Value.oneCell'] using ih
set_option maxRecDepth 100000 in
set_option maxHeartbeats 1000000 in
theorem take_short (g l m h rl rh W0 W1 l2 m2 h2 gb o bl cap : Nat) (hbl : bl < 16) (hcap : bl ≤ cap) (f : Nat → Int) (hf : ∀ i, 0 ≤ f i ∧ f i ≤ 255) (hW0 : le64 (shF f bl 0) (shF f bl 1) (shF f bl 2) (shF f bl 3) (shF f bl 4) (shF f bl 5) (shF f bl 6) (shF f bl 7) = (W0 : Int)) (hW1 : le64 (shF f bl 8) (shF f bl 9) (shF f bl 10) (shF f bl 11) (shF f bl 12) (shF f bl 13) (shF f bl 14) (shF f bl 15) = (W1 : Int)) (hw0 : W0 < 18446744073709551616) (hw1 : W1 < 18446744073709551616)
    (t : KR 0 l m h rl rh W0 W1 l2 m2 h2) (hl : l < 18446744073709551616) (hm0 : m < 18446744073709551616) (hh : h < 18446744073709551616) (hrl : rl < 18446744073709551616) (hrh : rh < 18446744073709551616) (hgb : gb ≠ g) (w : World) (hO : Old w gb o ((List.range bl).map fun i => Value.int .u8 (f i))) (hL : Has [.blk g (.cells #[.int .u64 (l : Int), .int .u64 (m : Int), .int .u64 (h : Int), .int .u64 (rl : Int), .int .u64 (rh : Int)] 76 (0, 0))] w) :
    CA Tryd.prog 33 [.pointer (some ⟨g, 0, none⟩), .slice (some ⟨gb, o, none⟩) bl cap] w (RU (.tuple #[]) g (.cells #[.int .u64 (l2 : Int), .int .u64 (m2 : Int), .int .u64 (h2 : Int), .int .u64 (rl : Int), .int .u64 (rh : Int)] 76 (0, 0)) w) := by
  obtain ⟨l1, k1, m1, k2, s1, x1, h1, x2, e1, e2, e3, e4, tr⟩ := t.ex
  have hk1 := e1.le hl hw0 (by omega)
  have hl1 := e1.lt
  have hm1 := e2.lt
  have hh1 := e4.lt
  have hs := shF_bd f hf bl
  refine enter (L := _) (X := [g]) Tryd.func33 rfl Tryd.ntmps33 rfl rfl hL ?_
  repeat (first | refine c_seq ?_ | (refine c_region (id := 0) ?_; refine se ?_; refine ea ?_; refine l_nil ?_) | (refine c_region (id := 1) ?_; refine sq qa ?_; refine l_nil ?_) | (refine c_region (id := 2) ?_; refine sq qm ?_; refine sq qls ?_; refine sq (by first | exact dlsst | exact dlssf) ?_; refine sq qa ?_; refine l_nil ?_) | (refine c_region (id := 3) ?_; refine sq qsa ?_; refine sq qm ?_; refine se ?_; refine e_copy (news := ((List.range bl).map fun i => Value.int .u8 (f i))) (k := bl) rfl rfl rfl (hO.rdN (by simpa using hgb)) (by simp; omega) (allOne_map f bl) (by (repeat (first | exact Pl.here | apply Pl.there))) (by simp; omega) (by first | (left; simp; done) | (right; omega)) (by simp) ?_; refine l_nil ?_) | (refine c_region (id := 4) ?_; refine sq qm ?_; refine sq qls ?_; refine sq (by exact q_indexAddr_arr (o' := bl) rfl rfl (by omega) (by omega) (by omega)) ?_; refine se ?_; refine e_store1 rfl rfl rfl (by (repeat (first | exact Pl.here | apply Pl.there))) (by rw [setA_size]; show bl < 16; omega) (by first | (left; simp; done) | (right; omega)) ?_; refine l_nil ?_) | (refine c_region (id := 5) ?_; refine sq qa ?_; refine l_nil ?_) | (refine c_region (id := 6) ?_; refine sq qsa ?_; refine sq qa ?_; refine l_nil ?_) | refine n_then ?_ | refine c_block ?_ | refine c_skip ?_ | refine n_block ?_ | refine c_exit ?_ | refine n_then_exit ?_ | refine n_block_eq ?_ | refine n_block_ne rfl ?_ | refine c_ret ?_ | refine n_then_ret ?_ | refine n_block_ret ?_ | refine c_cond_t rfl ?_ | refine c_cond_f rfl ?_ | refine r_succ ?_ )
  refine chg (L' := [.blk w.heap.size (.cells (shA f bl) 39 (0, 0)), .blk g (.cells #[.int .u64 (l : Int), .int .u64 (m : Int), .int .u64 (h : Int), .int .u64 (rl : Int), .int .u64 (rh : Int)] 76 (0, 0))]) (by rw [sh_eq f bl hbl]) ?_
  repeat (first | refine c_seq ?_ | (refine c_region (id := 7) ?_; refine sq qa ?_; refine l_nil ?_) | (refine x_region (id := 8) (some 8) [(0, .n), (1, .n), (2, .n), (3, .n), (4, .q), (5, .n), (6, .n), (7, .e), (8, .b), (9, .n), (10, .n), (11, .n), (12, .n), (13, .n), (14, .e), (15, .n)] _ mixed (by kernel_rfl) (List.Sublist.refl _) ?_; refine xn rfl qm ?_; refine xn rfl qm ?_; refine xn rfl qn ?_; refine xn rfl qf ?_; refine xq rfl ql ?_; refine xn rfl qm ?_; refine xn rfl qs ?_; refine x_e rfl ?_; refine ecp rfl rfl (fun w hC hm hL => by first | exact word_v (by omega) (hs _) (hs _) (hs _) (hs _) (hs _) (hs _) (hs _) (hs _) hW0 w (hL.old (k := 8) (by (repeat (first | exact List.Mem.head _ | apply List.Mem.tail))) (by rfl)) | exact word_v (by omega) (hs _) (hs _) (hs _) (hs _) (hs _) (hs _) (hs _) (hs _) hW1 w (hL.old (k := 8) (by (repeat (first | exact List.Mem.head _ | apply List.Mem.tail))) (by rfl))) ?_; intro m' hm'; refine xk ?_; refine x_b rfl ?_; refine e_q (by first | exact q_extern Tryd.func50 rfl rfl (by kernel_rfl) (by kernel_rfl) rfl (fun w => run_add64v l W0 0 (by omega) e1 w) | exact q_extern Tryd.func50 rfl rfl (by kernel_rfl) (by kernel_rfl) rfl (fun w => run_add64v m W1 k1 (by omega) e2 w)) rfl ?_; refine x_k (List.nil_sublist _) ?_; refine xn rfl qm ?_; refine xn rfl qe ?_; refine xn rfl qe ?_; refine xn rfl qn ?_; refine xn rfl qf ?_; refine x_e rfl ?_; (first | refine es1 ?_ | refine es2 ?_ | refine es3 ?_); refine xk ?_; refine xn rfl qa ?_; refine x_nil ?_) | (refine x_region (id := 9) (some 9) [(0, .n), (1, .n), (2, .n), (3, .n), (4, .q), (5, .n), (6, .n), (8, .n), (7, .e), (9, .b), (10, .n), (11, .n), (12, .n), (13, .n), (14, .n), (15, .e), (16, .n)] _ mixed (by kernel_rfl) (List.Sublist.refl _) ?_; refine xn rfl qm ?_; refine xn rfl qm ?_; refine xn rfl qn ?_; refine xn rfl qf ?_; refine xq rfl ql ?_; refine xn rfl qm ?_; refine xn rfl qs ?_; refine xn rfl qm ?_; refine x_e rfl ?_; refine ecp rfl rfl (fun w hC hm hL => by first | exact word_v (by omega) (hs _) (hs _) (hs _) (hs _) (hs _) (hs _) (hs _) (hs _) hW0 w (hL.old (k := 8) (by (repeat (first | exact List.Mem.head _ | apply List.Mem.tail))) (by rfl)) | exact word_v (by omega) (hs _) (hs _) (hs _) (hs _) (hs _) (hs _) (hs _) (hs _) hW1 w (hL.old (k := 8) (by (repeat (first | exact List.Mem.head _ | apply List.Mem.tail))) (by rfl))) ?_; intro m' hm'; refine xk ?_; refine x_b rfl ?_; refine e_q (by first | exact q_extern Tryd.func50 rfl rfl (by kernel_rfl) (by kernel_rfl) rfl (fun w => run_add64v l W0 0 (by omega) e1 w) | exact q_extern Tryd.func50 rfl rfl (by kernel_rfl) (by kernel_rfl) rfl (fun w => run_add64v m W1 k1 (by omega) e2 w)) rfl ?_; refine x_k (List.nil_sublist _) ?_; refine xn rfl qm ?_; refine xn rfl qe ?_; refine xn rfl qe ?_; refine xn rfl qn ?_; refine xn rfl qf ?_; refine x_e rfl ?_; (first | refine es1 ?_ | refine es2 ?_ | refine es3 ?_); refine xk ?_; refine xn rfl qa ?_; refine x_nil ?_) | (refine c_region (id := 10) ?_; refine sq qm ?_; refine sq qn ?_; refine sq qf ?_; refine sq ql ?_; refine sq qm ?_; refine sq qm ?_; refine sq (by exact Qt.cast (v' := .int .u64 ((s1 : Nat) : Int)) (congrArg (Value.int .u64) (by rw [e3.s]; omega)) (q_addU rfl rfl)) ?_; refine sq (by exact Qt.cast (v' := .int .u64 ((h1 : Nat) : Int)) (congrArg (Value.int .u64) (by rw [e4.s]; omega)) (q_addU rfl rfl)) ?_; refine sq qn ?_; refine sq qf ?_; refine se ?_; (first | refine es1 ?_ | refine es2 ?_ | refine es3 ?_); refine l_nil ?_) | (refine c_region (id := 11) ?_; refine sq qm ?_; refine se ?_; refine e_call_upd rfl rfl (by kernel_rfl) rfl (fun w hC hm hL => by exact times_r tr g hl1 hm1 hh1 hrl hrh w (hL.sub (by (repeat (first | exact List.nil_sublist _ | exact List.Sublist.slnil | apply List.Sublist.cons_cons | exact List.Sublist.refl _ | apply List.Sublist.cons))))) (by (repeat (first | exact Pl.here | apply Pl.there))) (by first | (left; simp; done) | (right; omega)) ?_; intro m' hm'; refine l_nil ?_) | refine n_then ?_ | refine c_block ?_ | refine c_skip ?_ | refine n_block ?_ | refine c_exit ?_ | refine n_then_exit ?_ | refine n_block_eq ?_ | refine n_block_ne rfl ?_ | refine c_ret ?_ | refine n_then_ret ?_ | refine n_block_ret ?_ | refine c_cond_t rfl ?_ | refine c_cond_f rfl ?_ | refine r_succ ?_ )
  (first | apply r_ret () | apply r_end ()); exact rfl; exact rfl; exact .nil; exact rfl; exact (by (repeat (first | exact List.nil_sublist _ | exact List.Sublist.slnil | apply List.Sublist.cons_cons | exact List.Sublist.refl _ | apply List.Sublist.cons))); exact (new_blk (.inl (by simp)) new_nil); exact trivial
end Go.Proofs.YteopejjlhmghbaaDoor
namespace Go.Proofs.YteopejjlhmghbaaDoor
open Go Go.RowKit
set_option linter.unusedVariables false
set_option linter.unusedSimpArgs false
def fq (xs : List Int) (j i : Nat) : Int := xs.getD (16 * j + i) 0
theorem getD_bd' {xs : List Int} (h : ∀ x ∈ xs, 0 ≤ x ∧ x ≤ 255) (j i : Nat) : 0 ≤ fq xs j i ∧ fq xs j i ≤ 255 := getD_bd h _
theorem Old.lt {w : World} {g o : Nat} {v : Value} {vs : List Value} (h : Old w g o (v :: vs)) : g < w.heap.size := World.block_lt_of_cell? w _ (h.cell 0 v rfl)
end Go.Proofs.YteopejjlhmghbaaDoor
namespace Go.Proofs.YteopejjlhmghbaaDoor
open Go Go.RowKit
set_option linter.unusedVariables false
set_option linter.unusedSimpArgs false
theorem nat_le {g : Nat → Int} (hg : ∀ i, 0 ≤ g i ∧ g i ≤ 255) (o : Nat) : le64 (g (o + 0)) (g (o + 1)) (g (o + 2)) (g (o + 3)) (g (o + 4)) (g (o + 5)) (g (o + 6)) (g (o + 7)) = ((L8 fun i => (g (o + i)).toNat : Nat) : Int) ∧ (L8 fun i => (g (o + i)).toNat) < 18446744073709551616 := by
  have h := fun i => hg (o + i)
  generalize hk : (fun i => g (o + i)) = k at *
  have hk2 : ∀ i, g (o + i) = k i := fun i => congrFun hk i
  simp only [hk2] at *
  have h0 := h 0
  have h0 := h 0
  have h1 := h 1
  have h2 := h 2
  have h3 := h 3
  have h4 := h 4
  have h5 := h 5
  have h6 := h 6
  have h7 := h 7
  unfold le64
  simp only [L8]
  omega
def wd0 (g : Nat → Int) : Nat := L8 fun i => (g i).toNat
def wd1 (g : Nat → Int) : Nat := L8 fun i => (g (8 + i)).toNat
theorem wd0_eq {g : Nat → Int} (hg : ∀ i, 0 ≤ g i ∧ g i ≤ 255) : le64 (g 0) (g 1) (g 2) (g 3) (g 4) (g 5) (g 6) (g 7) = (wd0 g : Int) ∧ wd0 g < 18446744073709551616 := by
  have h := nat_le hg 0
  simp only [Nat.zero_add] at h
  exact h
theorem wd1_eq {g : Nat → Int} (hg : ∀ i, 0 ≤ g i ∧ g i ≤ 255) : le64 (g 8) (g 9) (g 10) (g 11) (g 12) (g 13) (g 14) (g 15) = (wd1 g : Int) ∧ wd1 g < 18446744073709551616 := nat_le hg 8
theorem wd_vl (g : Nat → Int) (bh : Nat) : N3 (wd0 g) (wd1 g) bh = vl ((List.range 16).map fun i => (g i).toNat) + bh * 340282366920938463463374607431768211456 := by
  have e : ((List.range 16).map fun i => (g i).toNat) = [(g 0).toNat, (g 1).toNat, (g 2).toNat, (g 3).toNat, (g 4).toNat, (g 5).toNat, (g 6).toNat, (g 7).toNat, (g 8).toNat, (g 9).toNat, (g 10).toNat, (g 11).toNat, (g 12).toNat, (g 13).toNat, (g 14).toNat, (g 15).toNat] := rfl
  rw [e]
  simp only [vl, N3, wd0, wd1, L8, Nat.reduceAdd]
  omega
theorem take_fq (xs : List Int) (j r : Nat) (h : 16 * j + r ≤ xs.length) : ((xs.map Int.toNat).drop (16 * j)).take r = (List.range r).map fun i => (fq xs j i).toNat := by
  apply List.ext_getElem
  · simp; omega
  · intro i h1 h2
    have hi : i < r := by simpa using h2
    simp only [List.getElem_take, List.getElem_drop, List.getElem_map, List.getElem_range]
    unfold fq
    rw [List.getD_eq_getElem?_getD, List.getElem?_eq_getElem (by omega), Option.getD_some]
theorem blk_full (xs : List Int) (j : Nat) (h : 16 * j + 16 ≤ xs.length) : N3 (wd0 (fq xs j)) (wd1 (fq xs j)) 1 = blkV (xs.map Int.toNat) j := by
  rw [wd_vl]
  unfold blkV
  rw [take_fq xs j 16 h]
  simp only [List.length_map, List.length_range, Nat.one_mul]
theorem blk_tail (xs : List Int) (j r : Nat) (h : 16 * j + r = xs.length) (hr : r < 16) : N3 (wd0 (shF (fq xs j) r)) (wd1 (shF (fq xs j) r)) 0 = blkV (xs.map Int.toNat) j := by
  rw [wd_vl]
  unfold blkV
  have e0 : ((xs.map Int.toNat).drop (16 * j)).take 16 = ((xs.map Int.toNat).drop (16 * j)).take r := by
    rw [List.take_of_length_le (by simp; omega), List.take_of_length_le (by simp; omega)]
  rw [e0, take_fq xs j r (by omega)]
  have e : ((List.range 16).map fun i => (shF (fq xs j) r i).toNat) = (List.range r).map (fun i => (fq xs j i).toNat) ++ [1] ++ List.replicate (15 - r) 0 := by
    apply List.ext_getElem
    · simp; omega
    · intro i h1 h2
      have hi : i < 16 := by simpa using h1
      simp only [List.getElem_map, List.getElem_range]
      unfold shF
      by_cases h3 : i < r
      · rw [if_pos h3, List.getElem_append_left (by simp; omega), List.getElem_append_left (by simpa using h3)]; simp
      · rw [if_neg h3]
        by_cases h4 : i = r
        · subst h4; rw [if_pos rfl, List.getElem_append_left (by simp), List.getElem_append_right (by simp)]; simp
        · rw [if_neg h4, List.getElem_append_right (by simp; omega)]; simp
  rw [e, vl_append, vl_append, vl_zeros]
  simp [vl]
theorem r_key (kb : Nat → Int) (hk : ∀ i, 0 ≤ kb i ∧ kb i ≤ 255) : ∃ rl rh : Nat, rL kb = (rl : Int) ∧ rH kb = (rh : Int) ∧ rl < 1152921504606846976 ∧ rh < 1152921504606846976 ∧ rl + rh * 18446744073709551616 = vl (rcl kb) := by
  have a0 := wd0_eq hk
  have a1 := wd1_eq hk
  have h := fun i => (show (kb i).toNat < 256 by have := hk i; omega)
  refine ⟨wd0 kb &&& 1152921487695413247, wd1 kb &&& 1152921487695413244, ?_, ?_, ?_⟩
  · unfold rL
    rw [a0.1, show (1152921487695413247 : Int) = ((1152921487695413247 : Nat) : Int) from rfl, u64_and_nat _ _ a0.2 (by omega)]
  · unfold rH
    rw [a1.1, show (1152921487695413244 : Int) = ((1152921487695413244 : Nat) : Int) from rfl, u64_and_nat _ _ a1.2 (by omega)]
  · have c0 := clampL (fun i => (kb i).toNat) (fun i => h i)
    have c1 := clampH (fun i => (kb (8 + i)).toNat) (fun i => h _)
    rw [show wd0 kb = L8 fun i => (kb i).toNat from rfl, show wd1 kb = L8 fun i => (kb (8 + i)).toNat from rfl, c0, c1]
    simp only [Nat.reduceAdd, rcl, vl]
    have h0 := h 0
    have h1 := h 1
    have h2 := h 2
    have h3 := h 3
    have h4 := h 4
    have h5 := h 5
    have h6 := h 6
    have h7 := h 7
    have h8 := h 8
    have h9 := h 9
    have h10 := h 10
    have h11 := h 11
    have h12 := h 12
    have h13 := h 13
    have h14 := h 14
    have h15 := h 15
    generalize (kb 0).toNat = k0 at *
    generalize (kb 1).toNat = k1 at *
    generalize (kb 2).toNat = k2 at *
    generalize (kb 3).toNat = k3 at *
    generalize (kb 4).toNat = k4 at *
    generalize (kb 5).toNat = k5 at *
    generalize (kb 6).toNat = k6 at *
    generalize (kb 7).toNat = k7 at *
    generalize (kb 8).toNat = k8 at *
    generalize (kb 9).toNat = k9 at *
    generalize (kb 10).toNat = k10 at *
    generalize (kb 11).toNat = k11 at *
    generalize (kb 12).toNat = k12 at *
    generalize (kb 13).toNat = k13 at *
    generalize (kb 14).toNat = k14 at *
    generalize (kb 15).toNat = k15 at *
    clear c0 c1 h a0 a1 hk
    omega
theorem byL (V i : Nat) (h : i < 8) : byt64 ((V % 18446744073709551616 : Nat) : Int) i = ((V / 256 ^ i % 256 : Nat) : Int) := by
  unfold byt64
  have e : (2 : Int) ^ (8 * i) = ((256 ^ i : Nat) : Int) := by rw [Int.natCast_pow, Int.pow_mul]; rfl
  rw [e, ← Int.natCast_ediv, show (256 : Int) = ((256 : Nat) : Int) from rfl, ← Int.natCast_emod]
  congr 1
  have e2 : 18446744073709551616 = 256 ^ i * 256 ^ (8 - i) := by
    rw [← Nat.pow_add, show i + (8 - i) = 8 by omega]
  rw [e2, Nat.mod_mul_right_div_self, Nat.mod_mod_of_dvd]
  exact ⟨256 ^ (7 - i), by rw [Nat.mul_comm, ← Nat.pow_succ]; congr 1; omega⟩
theorem byH (V i : Nat) : V / 18446744073709551616 / 256 ^ i = V / 256 ^ (8 + i) := by
  rw [Nat.div_div_eq_div_mul, Nat.pow_add]
theorem key_hi (kb : Nat → Int) : vl (((List.range 16).map fun i => kb (16 + i)).map Int.toNat) = L8 (fun i => (kb (16 + i)).toNat) + L8 (fun i => (kb (24 + i)).toNat) * 18446744073709551616 := by
  rw [List.map_map, show (Int.toNat ∘ fun i => kb (16 + i)) = fun i => ((fun i => kb (16 + i)) i).toNat from rfl]
  have h := wd_vl (fun i => kb (16 + i)) 0
  rw [Nat.zero_mul, Nat.add_zero] at h
  rw [← h]
  have h0 : wd0 (fun i => kb (16 + i)) = L8 (fun i => (kb (16 + i)).toNat) := rfl
  have h1 : wd1 (fun i => kb (16 + i)) = L8 (fun i => (kb (24 + i)).toNat) := by
    unfold wd1
    congr 1
    funext i
    show (kb (16 + (8 + i))).toNat = _
    rw [show 16 + (8 + i) = 24 + i by omega]
  rw [h0, h1]
  unfold N3
  rw [Nat.zero_mul, Nat.add_zero]
theorem cLo_eq {S0 lo mi v S1 : Nat} {c : Int} (hc : c = (S0 : Int)) (hd : lo + mi * 18446744073709551616 = v % 340282366920938463463374607431768211456) (hl : lo < 18446744073709551616) : ((lo : Int) + c + 0) % 18446744073709551616 = (((v + (S0 + S1 * 18446744073709551616)) % 18446744073709551616 : Nat) : Int) := by
  subst hc
  omega
theorem cHi_eq {S0 lo mi v S1 : Nat} {c e : Int} (hc : c = (S0 : Int)) (he : e = (S1 : Int)) (hd : lo + mi * 18446744073709551616 = v % 340282366920938463463374607431768211456) (hl : lo < 18446744073709551616) (hm : mi < 18446744073709551616) : ((mi : Int) + e + ((lo : Int) + c + 0) / 18446744073709551616) % 18446744073709551616 = (((v + (S0 + S1 * 18446744073709551616)) / 18446744073709551616 % 18446744073709551616 : Nat) : Int) := by
  subst hc
  subst he
  omega
theorem codeA_V (V : Nat) : codeA ((V % 18446744073709551616 : Nat) : Int) ((V / 18446744073709551616 % 18446744073709551616 : Nat) : Int) = #[.int .u8 ((V / 256 ^ 0 % 256 : Nat) : Int), .int .u8 ((V / 256 ^ 1 % 256 : Nat) : Int), .int .u8 ((V / 256 ^ 2 % 256 : Nat) : Int), .int .u8 ((V / 256 ^ 3 % 256 : Nat) : Int), .int .u8 ((V / 256 ^ 4 % 256 : Nat) : Int), .int .u8 ((V / 256 ^ 5 % 256 : Nat) : Int), .int .u8 ((V / 256 ^ 6 % 256 : Nat) : Int), .int .u8 ((V / 256 ^ 7 % 256 : Nat) : Int), .int .u8 ((V / 256 ^ 8 % 256 : Nat) : Int), .int .u8 ((V / 256 ^ 9 % 256 : Nat) : Int), .int .u8 ((V / 256 ^ 10 % 256 : Nat) : Int), .int .u8 ((V / 256 ^ 11 % 256 : Nat) : Int), .int .u8 ((V / 256 ^ 12 % 256 : Nat) : Int), .int .u8 ((V / 256 ^ 13 % 256 : Nat) : Int), .int .u8 ((V / 256 ^ 14 % 256 : Nat) : Int), .int .u8 ((V / 256 ^ 15 % 256 : Nat) : Int)] := by
  have q0 := byL V 0 (by omega)
  have q1 := byL V 1 (by omega)
  have q2 := byL V 2 (by omega)
  have q3 := byL V 3 (by omega)
  have q4 := byL V 4 (by omega)
  have q5 := byL V 5 (by omega)
  have q6 := byL V 6 (by omega)
  have q7 := byL V 7 (by omega)
  have p0 := byL (V / 18446744073709551616) 0 (by omega)
  have p1 := byL (V / 18446744073709551616) 1 (by omega)
  have p2 := byL (V / 18446744073709551616) 2 (by omega)
  have p3 := byL (V / 18446744073709551616) 3 (by omega)
  have p4 := byL (V / 18446744073709551616) 4 (by omega)
  have p5 := byL (V / 18446744073709551616) 5 (by omega)
  have p6 := byL (V / 18446744073709551616) 6 (by omega)
  have p7 := byL (V / 18446744073709551616) 7 (by omega)
  simp only [byH, Nat.reduceAdd] at p0 p1 p2 p3 p4 p5 p6 p7
  unfold codeA
  rw [q0, q1, q2, q3, q4, q5, q6, q7, p0, p1, p2, p3, p4, p5, p6, p7]
theorem codeB_V (V : Nat) : (codeB V 16).toArray = #[.int .u8 ((V / 256 ^ 0 % 256 : Nat) : Int), .int .u8 ((V / 256 ^ 1 % 256 : Nat) : Int), .int .u8 ((V / 256 ^ 2 % 256 : Nat) : Int), .int .u8 ((V / 256 ^ 3 % 256 : Nat) : Int), .int .u8 ((V / 256 ^ 4 % 256 : Nat) : Int), .int .u8 ((V / 256 ^ 5 % 256 : Nat) : Int), .int .u8 ((V / 256 ^ 6 % 256 : Nat) : Int), .int .u8 ((V / 256 ^ 7 % 256 : Nat) : Int), .int .u8 ((V / 256 ^ 8 % 256 : Nat) : Int), .int .u8 ((V / 256 ^ 9 % 256 : Nat) : Int), .int .u8 ((V / 256 ^ 10 % 256 : Nat) : Int), .int .u8 ((V / 256 ^ 11 % 256 : Nat) : Int), .int .u8 ((V / 256 ^ 12 % 256 : Nat) : Int), .int .u8 ((V / 256 ^ 13 % 256 : Nat) : Int), .int .u8 ((V / 256 ^ 14 % 256 : Nat) : Int), .int .u8 ((V / 256 ^ 15 % 256 : Nat) : Int)] := by
  unfold codeB
  simp only [List.range, List.range.loop, List.map_cons, List.map_nil, Nat.reduceLT, if_true]
theorem code_end (kb : Nat → Int) (hk : ∀ i, 0 ≤ kb i ∧ kb i ≤ 255) {s : Nat × Nat × Nat} {v : Nat} (hs : StV s v) : codeA (cLo (elo s.1 s.2.1 s.2.2) kb) (cHi (elo s.1 s.2.1 s.2.2) (pemi s.1 s.2.1 s.2.2) kb) = (codeB (v + vl (((List.range 16).map fun i => kb (16 + i)).map Int.toNat)) 16).toArray := by
  have hd := hs.done
  have hl := elo_lt s.1 s.2.1 s.2.2 hs.l
  have hm := emi_lt s.1 s.2.1 s.2.2 hs.m
  generalize elo s.1 s.2.1 s.2.2 = lo at *
  generalize pemi s.1 s.2.1 s.2.2 = mi at *
  have a2 := nat_le hk 16
  have a3 := nat_le hk 24
  simp only [Nat.reduceAdd] at a2 a3
  rw [key_hi, codeB_V]
  unfold cLo cHi
  rw [cLo_eq (S1 := L8 (fun i => (kb (24 + i)).toNat)) a2.1 hd hl, cHi_eq a2.1 a3.1 hd hl hm, codeA_V]
end Go.Proofs.YteopejjlhmghbaaDoor
namespace Go.Proofs.YteopejjlhmghbaaDoor
open Go Go.RowKit
set_option linter.unusedVariables false
set_option linter.unusedSimpArgs false
theorem TR.zero (l m h : Nat) : TR l m h 0 0 0 0 0 := ⟨0, 0, 0, 0, 0, 0, 0, 0, 0, 0, 0, 0, 0, 0, 0, 0, 0, 0, 0, 0, 0, 0, 0, 0, 0, 0, 0, 0, 0, 0, 0, 0, 0, 0, 0, ⟨by simp, by simp⟩, ⟨by simp, by simp⟩, ⟨by simp, by simp⟩, ⟨by simp, by simp⟩, ⟨by simp, by simp⟩, ⟨by simp, by simp⟩, ⟨rfl, rfl⟩, ⟨rfl, rfl⟩, ⟨rfl, rfl⟩, ⟨rfl, rfl⟩, ⟨rfl, rfl⟩, ⟨rfl, rfl⟩, ⟨rfl, rfl⟩, ⟨rfl, rfl⟩, ⟨rfl, rfl⟩, ⟨rfl, rfl⟩, ⟨rfl⟩, ⟨rfl, rfl⟩, ⟨rfl, rfl⟩, rfl⟩
theorem KR.zero (bh l m h W0 W1 : Nat) : KR bh l m h 0 0 W0 W1 0 0 0 := ⟨_, _, _, _, _, _, _, _, ⟨rfl, rfl⟩, ⟨rfl, rfl⟩, ⟨rfl, rfl⟩, ⟨rfl, rfl⟩, TR.zero _ _ _⟩
end Go.Proofs.YteopejjlhmghbaaDoor
namespace Go.Proofs.YteopejjlhmghbaaDoor
open Go Go.RowKit
set_option linter.unusedVariables false
set_option linter.unusedSimpArgs false
theorem KR.next (bh l m h rl rh W0 W1 : Nat) : ∃ s : Nat × Nat × Nat, KR bh l m h rl rh W0 W1 s.1 s.2.1 s.2.2 := by
  obtain ⟨a, b, c, h⟩ := KR.total bh l m h rl rh W0 W1
  exact ⟨(a, b, c), h⟩
noncomputable def stS (rl rh : Nat) (W0 W1 : Nat → Nat) : Nat → Nat × Nat × Nat
  | 0 => (0, 0, 0)
  | j + 1 => Classical.choose (KR.next 1 (stS rl rh W0 W1 j).1 (stS rl rh W0 W1 j).2.1 (stS rl rh W0 W1 j).2.2 rl rh (W0 j) (W1 j))
theorem stS_next (rl rh : Nat) (W0 W1 : Nat → Nat) (j : Nat) : KR 1 (stS rl rh W0 W1 j).1 (stS rl rh W0 W1 j).2.1 (stS rl rh W0 W1 j).2.2 rl rh (W0 j) (W1 j) (stS rl rh W0 W1 (j + 1)).1 (stS rl rh W0 W1 (j + 1)).2.1 (stS rl rh W0 W1 (j + 1)).2.2 := by
  exact Classical.choose_spec (KR.next 1 (stS rl rh W0 W1 j).1 (stS rl rh W0 W1 j).2.1 (stS rl rh W0 W1 j).2.2 rl rh (W0 j) (W1 j))
theorem stS_lt (rl rh : Nat) (W0 W1 : Nat → Nat) : ∀ j, (stS rl rh W0 W1 j).1 < 18446744073709551616 ∧ (stS rl rh W0 W1 j).2.1 < 18446744073709551616 ∧ (stS rl rh W0 W1 j).2.2 < 18446744073709551616
  | 0 => (by decide : (0 : Nat) < 18446744073709551616 ∧ (0 : Nat) < 18446744073709551616 ∧ (0 : Nat) < 18446744073709551616)
  | j + 1 => (stS_next rl rh W0 W1 j).lt
end Go.Proofs.YteopejjlhmghbaaDoor
namespace Go.Proofs.YteopejjlhmghbaaDoor
open Go Go.RowKit
set_option linter.unusedVariables false
set_option linter.unusedSimpArgs false
structure Prt where
  a : Option Addr
  len : Nat
  cap : Nat
  xs : List Int
def Prt.v (p : Prt) : Value := .slice p.a p.len p.cap
structure Prt.Ok (w : World) (p : Prt) : Prop where
  s : SlE (Value.int .u8) w p.a p.xs
  l : p.xs.length = p.len
  c : p.len ≤ p.cap
  r : ∀ x ∈ p.xs, 0 ≤ x ∧ x ≤ 255
def joined (ps : List Prt) : List Int := ps.flatMap (·.xs)
def off (ps : List Prt) (i : Nat) : Nat := (joined (ps.take i)).length
theorem part_at {ps : List Prt} {i : Nat} {p : Prt} (h : ps[i]? = some p) (hl : p.xs.length = p.len) : (joined ps).drop (off ps i) = p.xs ++ joined (ps.drop (i + 1)) ∧ off ps (i + 1) = off ps i + p.len ∧ off ps (i + 1) ≤ (joined ps).length := by
  have hi : i < ps.length := (List.getElem?_eq_some_iff.1 h).1
  have hp : ps[i] = p := (List.getElem?_eq_some_iff.1 h).2
  have e0 : ps.take (i + 1) = ps.take i ++ [p] := by rw [List.take_add_one, h]; rfl
  have e1 : joined ps = joined (ps.take i) ++ (p.xs ++ joined (ps.drop (i + 1))) := by
    have h3 : joined (ps.take (i + 1)) = joined (ps.take i) ++ p.xs := by rw [e0]; simp [joined]
    have h2 : joined ps = joined (ps.take (i + 1)) ++ joined (ps.drop (i + 1)) := by
      unfold joined
      rw [← List.flatMap_append, List.take_append_drop]
    rw [h2, h3, List.append_assoc]
  have e2 : off ps (i + 1) = off ps i + p.len := by
    unfold off
    rw [e0]
    simp [joined, hl]
  refine ⟨?_, e2, ?_⟩
  · rw [e1]; unfold off; rw [List.drop_left]
  · rw [e2, e1]; simp [off]; omega
theorem off_all (ps : List Prt) : off ps ps.length = (joined ps).length := by unfold off; rw [List.take_length]
structure HP (H : Array Value) (f : Nat → Int) (c : Nat) : Prop where
  size : H.size = 16
  pre : H.toList.take c = (List.range c).map fun q => Value.int .u8 (f q)
theorem HP.copy {H : Array Value} {f : Nat → Int} {c n : Nat} (h : HP H f c) (hc : c + n ≤ 16) : HP (setA H c ((List.range n).map fun q => Value.int .u8 (f (c + q)))) f (c + n) := by
  refine ⟨by rw [setA_size]; exact h.size, ?_⟩
  rw [setA_toList _ _ _ (by rw [List.length_map, List.length_range, h.size]; exact hc), h.pre]
  rw [List.take_append_of_le_length (by simp), List.take_of_length_le (by simp), List.range_add, List.map_append, List.map_map]
  rfl
theorem HP.set0 {H : Array Value} {f : Nat → Int} {n : Nat} (h : H.size = 16) (hn : n ≤ 16) : HP (setA H 0 ((List.range n).map fun q => Value.int .u8 (f q))) f n := by
  have h0 : HP H f 0 := ⟨h, by simp⟩
  have := h0.copy (n := n) (by omega)
  simpa using this
theorem HP.all {H : Array Value} {f : Nat → Int} (h : HP H f 16) : (H.toList.drop 0).take 16 = [.int .u8 (f 0), .int .u8 (f 1), .int .u8 (f 2), .int .u8 (f 3), .int .u8 (f 4), .int .u8 (f 5), .int .u8 (f 6), .int .u8 (f 7), .int .u8 (f 8), .int .u8 (f 9), .int .u8 (f 10), .int .u8 (f 11), .int .u8 (f 12), .int .u8 (f 13), .int .u8 (f 14), .int .u8 (f 15)] := by
  rw [List.drop_zero, h.pre]; rfl
theorem fq_c (X : List Int) (d : Nat) (q : Nat) : fq X (d / 16) (d % 16 + q) = X.getD (d + q) 0 := by
  unfold fq
  congr 1
  omega
structure Left (w : World) (X : List Int) (dE : Nat) (z : Nat × Option Addr × Nat × Array Value × Nat) (m0 : Nat) : Prop where
  j : 16 * z.1 ≤ dE
  s : SlE (Value.int .u8) w z.2.1 ((X.drop (16 * z.1)).take (dE - 16 * z.1))
  c : dE - 16 * z.1 ≤ z.2.2.1
  h : z.2.2.2.1.size = 16
  m : m0 + 2 ≤ z.2.2.2.2
set_option maxRecDepth 100000 in
set_option maxHeartbeats 1000000 in
theorem code_parts (kb : Nat → Int) (hk : ∀ i, 0 ≤ kb i ∧ kb i ≤ 255) (ps : List Prt) (gp cp0 : Nat) (X : List Int) (hXe : X = joined ps) (hn : ps.length ≤ 1000) (hXl : X.length ≤ 100000) (w : World) (hps : ∀ p ∈ ps, p.Ok w) (hO : Old w gp 0 (ps.map Prt.v)) :
    CA Tryd.prog 18 [.agg (keyA kb), .slice (some ⟨gp, 0, none⟩) ps.length cp0] w (RV (.agg (codeB (accV (vl (rcl kb)) (X.map Int.toNat) (nbl X.length) + vl (((List.range 16).map fun i => kb (16 + i)).map Int.toNat)) 16).toArray) w) := by
  obtain ⟨rl, rh, eL, eH, hrl0, hrh0, hR⟩ := r_key kb hk
  have hrl : rl < 18446744073709551616 := by omega
  have hrh : rh < 18446744073709551616 := by omega
  have hXb : ∀ x ∈ X, 0 ≤ x ∧ x ≤ 255 := by
    intro x hx
    rw [hXe] at hx
    obtain ⟨p, hp, hx⟩ := List.mem_flatMap.1 hx
    exact (hps p hp).r x hx
  have hX : ∀ j i, 0 ≤ fq X j i ∧ fq X j i ≤ 255 := fun j i => getD_bd' hXb j i
  have hSl := stS_lt rl rh (fun j => wd0 (fq X j)) (fun j => wd1 (fq X j))
  have hSV : ∀ j, 16 * j ≤ X.length → StV (stS rl rh (fun j => wd0 (fq X j)) (fun j => wd1 (fq X j)) j) (accV (vl (rcl kb)) (X.map Int.toNat) j) := by
    intro j
    induction j with
    | zero => intro _; exact StV.zero
    | succ j ih =>
      intro hj
      exact (ih (by omega)).next (bh := 1) (by omega) (stS_next rl rh _ _ j) (hSl _) (wd0_eq (hX j)).2 (wd1_eq (hX j)).2 (blk_full X j (by omega)) hrl0 hrh0 hR
  have hbg : ∀ w, CA Tryd.prog 32 [.agg (keyA kb)] w (RV (.agg #[.int .u64 0, .int .u64 0, .int .u64 0, .int .u64 (rl : Int), .int .u64 (rh : Int)]) w) := fun w => by
    have := pbegin_c kb hk w
    rwa [eL, eH] at this
  refine enter (L := []) (X := []) Tryd.func18 rfl Tryd.ntmps18 rfl rfl (Has.nil _) ?_
  repeat (first | refine c_seq ?_ | (refine c_region (id := 0) ?_; refine se ?_; refine eb ?_; refine se ?_; refine ea ?_; refine l_nil ?_) | (refine c_region (id := 1) ?_; refine sq (by first | exact qlb | exact qlr) ?_; refine se ?_; refine ecp rfl rfl (fun w hC hm hL => hbg w) ?_; intro m' hm'; refine se ?_; refine ea ?_; refine se ?_; refine esa ?_; refine l_nil ?_) | (refine c_region (id := 2) ?_; refine se ?_; refine ea ?_; refine l_nil ?_) | (refine c_region (id := 3) ?_; refine sq qa ?_; refine l_nil ?_) | (refine c_region (id := 4) ?_; refine sq qm ?_; refine sq qls ?_; refine sq qm ?_; refine l_nil ?_) | refine n_then ?_ | refine c_block ?_ | refine c_skip ?_ | refine n_block ?_ | refine c_exit ?_ | refine n_then_exit ?_ | refine n_block_eq ?_ | refine n_block_ne rfl ?_ | refine c_ret ?_ | refine n_then_ret ?_ | refine n_block_ret ?_ | refine c_cond_t rfl ?_ | refine c_cond_f rfl ?_ | refine r_succ ?_ )
  have e00 : off ps 0 = 0 := by simp [off, joined]
  refine chg (L' := [.blk (m' + 1) (.cells #[.int .u8 0, .int .u8 0, .int .u8 0, .int .u8 0, .int .u8 0, .int .u8 0, .int .u8 0, .int .u8 0, .int .u8 0, .int .u8 0, .int .u8 0, .int .u8 0, .int .u8 0, .int .u8 0, .int .u8 0, .int .u8 0] 39 (0, 0)), .blk m' (.cells #[.int .u64 (((stS rl rh (fun j => wd0 (fq X j)) (fun j => wd1 (fq X j)) (off ps 0 / 16)).1 : Nat) : Int), .int .u64 (((stS rl rh (fun j => wd0 (fq X j)) (fun j => wd1 (fq X j)) (off ps 0 / 16)).2.1 : Nat) : Int), .int .u64 (((stS rl rh (fun j => wd0 (fq X j)) (fun j => wd1 (fq X j)) (off ps 0 / 16)).2.2 : Nat) : Int), .int .u64 (rl : Int), .int .u64 (rh : Int)] 76 (0, 0)), .blk (w.heap.size + 1) (.cells #[.int .u8 0, .int .u8 0, .int .u8 0, .int .u8 0, .int .u8 0, .int .u8 0, .int .u8 0, .int .u8 0, .int .u8 0, .int .u8 0, .int .u8 0, .int .u8 0, .int .u8 0, .int .u8 0, .int .u8 0, .int .u8 0] 39 (0, 0)), .blk w.heap.size (.cells (keyA kb) 23 (0, 0))]) (by rw [e00]; rfl) ?_
  refine c_loop (γ := Nat × Array Value × Nat) (fun z => [(15, .int .i64 z.1), (7, .int .i64 ((off ps z.1 % 16 : Nat) : Int)), (5, .pointer (some ⟨m', 0, none⟩)), (6, .pointer (some ⟨m' + 1, 0, none⟩)), (2, .pointer (some ⟨w.heap.size, 0, none⟩)), (4, .pointer (some ⟨w.heap.size + 1, 0, none⟩)), (13, .slice (some ⟨gp, 0, none⟩) ps.length cp0), (14, .int .i64 ps.length)]) (fun z => z.2.2) (fun z => [.blk (m' + 1) (.cells z.2.1 39 (0, 0)), .blk m' (.cells #[.int .u64 (((stS rl rh (fun j => wd0 (fq X j)) (fun j => wd1 (fq X j)) (off ps z.1 / 16)).1 : Nat) : Int), .int .u64 (((stS rl rh (fun j => wd0 (fq X j)) (fun j => wd1 (fq X j)) (off ps z.1 / 16)).2.1 : Nat) : Int), .int .u64 (((stS rl rh (fun j => wd0 (fq X j)) (fun j => wd1 (fq X j)) (off ps z.1 / 16)).2.2 : Nat) : Int), .int .u64 (rl : Int), .int .u64 (rh : Int)] 76 (0, 0)), .blk (w.heap.size + 1) (.cells #[.int .u8 0, .int .u8 0, .int .u8 0, .int .u8 0, .int .u8 0, .int .u8 0, .int .u8 0, .int .u8 0, .int .u8 0, .int .u8 0, .int .u8 0, .int .u8 0, .int .u8 0, .int .u8 0, .int .u8 0, .int .u8 0] 39 (0, 0)), .blk w.heap.size (.cells (keyA kb) 23 (0, 0))]) (fun z => z.1 ≤ ps.length ∧ HP z.2.1 (fq X (off ps z.1 / 16)) (off ps z.1 % 16) ∧ m' + 2 ≤ z.2.2) (fun z => ps.length - z.1) ⟨0, #[.int .u8 0, .int .u8 0, .int .u8 0, .int .u8 0, .int .u8 0, .int .u8 0, .int .u8 0, .int .u8 0, .int .u8 0, .int .u8 0, .int .u8 0, .int .u8 0, .int .u8 0, .int .u8 0, .int .u8 0, .int .u8 0], m' + 1 + 1⟩ ⟨by simp, ⟨rfl, by simp [off, joined]⟩, by simp⟩ (by exact ⟨rfl, by dsimp only; rw [e00]; rfl, rfl, rfl, rfl, rfl, rfl, rfl, trivial⟩) rfl (by (repeat (first | exact List.nil_sublist _ | exact List.Sublist.slnil | apply List.Sublist.cons_cons | exact List.Sublist.refl _ | apply List.Sublist.cons))) ?_
  rintro ⟨i, H, mm⟩ ⟨hi, hH, hmm⟩
  dsimp only at hi hH hmm ⊢
  repeat (first | refine c_seq ?_ | (refine c_region (id := 5) ?_; refine sq qlss ?_; refine l_nil ?_) | refine n_then ?_ | refine c_block ?_ | refine c_skip ?_ | refine n_block ?_ | refine c_exit ?_ | refine n_then_exit ?_ | refine n_block_eq ?_ | refine n_block_ne rfl ?_ | refine c_ret ?_ | refine n_then_ret ?_ | refine n_block_ret ?_ | refine c_cond_t rfl ?_ | refine c_cond_f rfl ?_ | refine r_succ ?_ )
  refine c_cond_dec rfl (fun h => ?_) (fun h => ?_)
  · have hi2 : i < ps.length := by omega
    obtain ⟨p, hp⟩ : ∃ p, ps[i]? = some p := ⟨_, List.getElem?_eq_getElem hi2⟩
    have hok := hps p (List.mem_of_getElem? hp)
    obtain ⟨hP1, hP2, hP3⟩ := part_at hp hok.l
    rw [← hXe] at hP1 hP3
    have hpl := hok.l
    have hpc := hok.c
    have hpx : (X.drop (off ps i)).take p.len = p.xs := by rw [hP1, ← hpl, List.take_left]
    have hpv : nth (ps.map Prt.v) i = some (.slice p.a p.len p.cap) := nth_map (enc := Prt.v) hp
    obtain ⟨c, hc⟩ : ∃ c, c = off ps i % 16 := ⟨_, rfl⟩
    obtain ⟨j0, hj0⟩ : ∃ j0, j0 = off ps i / 16 := ⟨_, rfl⟩
    have hcj : off ps i = 16 * j0 + c := by omega
    have hfq : ∀ q, fq X j0 (c + q) = X.getD (off ps i + q) 0 := fun q => by rw [hc, hj0]; exact fq_c X _ q
    rw [← hc, ← hj0] at hH ⊢
    refine c_skip ?_
    refine n_then ?_
    refine c_seq ?_
    refine c_block ?_
    refine c_seq ?_
    refine c_region (id := 6) ?_
    refine sq (by exact q_indexAddr_sl (o' := 0 + i) rfl rfl (by omega) (by omega) (by omega)) ?_
    refine sq ql ?_
    refine sq qa ?_
    refine l_nil ?_
    refine n_then ?_
    refine c_join (γ := Nat × Option Addr × Nat × Array Value × Nat) (fun z => [(9, .slice z.2.1 (off ps i + p.len - 16 * z.1) z.2.2.1), (15, .int .i64 i), (5, .pointer (some ⟨m', 0, none⟩)), (6, .pointer (some ⟨m' + 1, 0, none⟩)), (2, .pointer (some ⟨w.heap.size, 0, none⟩)), (4, .pointer (some ⟨w.heap.size + 1, 0, none⟩)), (13, .slice (some ⟨gp, 0, none⟩) ps.length cp0), (14, .int .i64 ps.length)]) (fun z => z.2.2.2.2) (fun z => [.blk (m' + 1) (.cells z.2.2.2.1 39 (0, 0)), .blk m' (.cells #[.int .u64 (((stS rl rh (fun j => wd0 (fq X j)) (fun j => wd1 (fq X j)) z.1).1 : Nat) : Int), .int .u64 (((stS rl rh (fun j => wd0 (fq X j)) (fun j => wd1 (fq X j)) z.1).2.1 : Nat) : Int), .int .u64 (((stS rl rh (fun j => wd0 (fq X j)) (fun j => wd1 (fq X j)) z.1).2.2 : Nat) : Int), .int .u64 (rl : Int), .int .u64 (rh : Int)] 76 (0, 0)), .blk (w.heap.size + 1) (.cells #[.int .u8 0, .int .u8 0, .int .u8 0, .int .u8 0, .int .u8 0, .int .u8 0, .int .u8 0, .int .u8 0, .int .u8 0, .int .u8 0, .int .u8 0, .int .u8 0, .int .u8 0, .int .u8 0, .int .u8 0, .int .u8 0] 39 (0, 0)), .blk w.heap.size (.cells (keyA kb) 23 (0, 0))]) (fun z => Left w X (off ps i + p.len) z m') ?_ ?_
    · refine c_seq ?_
      by_cases hc0 : c = 0
      · repeat (first | refine c_seq ?_ | (refine c_region (id := 7) ?_; refine sq qm ?_; refine sq (by first | exact dgtrt | exact dgtrf) ?_; refine l_nil ?_) | refine n_then ?_ | refine c_block ?_ | refine c_skip ?_ | refine n_block ?_ | refine c_exit ?_ | refine n_then_exit ?_ | refine n_block_eq ?_ | refine n_block_ne rfl ?_ | refine c_ret ?_ | refine n_then_ret ?_ | refine n_block_ret ?_ | refine c_cond_t rfl ?_ | refine c_cond_f rfl ?_ | refine r_succ ?_ )
        refine c_joined ⟨j0, p.a, p.cap, H, mm⟩ ⟨by dsimp only; omega, by
          dsimp only
          rw [show off ps i + p.len - 16 * j0 = p.len by omega, show 16 * j0 = off ps i by omega, hpx]; exact hok.s, by dsimp only; omega, hH.size, hmm⟩ (by exact ⟨by dsimp only; rw [show off ps i + p.len - 16 * j0 = p.len by omega]; rfl, rfl, rfl, rfl, rfl, rfl, rfl, rfl, trivial⟩) (by rfl) (by (repeat (first | exact List.nil_sublist _ | exact List.Sublist.slnil | apply List.Sublist.cons_cons | exact List.Sublist.refl _ | apply List.Sublist.cons)))
      · by_cases hbig : 16 ≤ c + p.len
        · obtain ⟨g, o, hpa, hOp⟩ := hok.s.get (i := 0) (by omega)
          have hseg : Old w g o ((List.range (16 - c)).map fun q => Value.int .u8 (fq X j0 (c + q))) := by
            have h1 := hOp.tak (16 - c)
            rw [← hpx, seg (by omega) (by omega)] at h1
            simpa only [hfq] using h1
          obtain ⟨pa, hpa2⟩ : ∃ pa, pa = p.a := ⟨_, rfl⟩
          repeat (first | refine c_seq ?_ | (refine c_region (id := 7) ?_; refine sq qm ?_; refine sq (by first | exact dgtrt | exact dgtrf) ?_; refine l_nil ?_) | refine n_then ?_ | refine c_block ?_ | refine c_skip ?_ | refine n_block ?_ | refine c_exit ?_ | refine n_then_exit ?_ | refine n_block_eq ?_ | refine n_block_ne rfl ?_ | refine c_ret ?_ | refine n_then_ret ?_ | refine n_block_ret ?_ | refine c_cond_t rfl ?_ | refine c_cond_f rfl ?_ | refine r_succ ?_ )
          rw [show Value.slice p.a p.len p.cap = Value.slice (some ⟨g, o, none⟩) p.len p.cap by rw [hpa]]
          repeat (first | refine c_seq ?_ | (refine c_region (id := 8) ?_; refine sq qm ?_; refine sq (by exact q_slice_arr (o' := c) (len' := 16 - c) (cap' := 16 - c) rfl rfl rfl (by omega) (by omega) (by omega) (by rw [Int.toNat_natCast, if_neg (by omega)]; omega) (by omega) (by omega)) ?_; refine sq qm ?_; refine se ?_; have hF : HP (setA H c ((List.range (16 - c)).map fun q => Value.int .u8 (fq X j0 (c + q)))) (fq X j0) 16 := (by have := hH.copy (n := 16 - c) (by omega); rwa [show c + (16 - c) = 16 by omega] at this); refine e_copy (news := ((List.range (16 - c)).map fun q => Value.int .u8 (fq X j0 (c + q)))) (k := (16 - c)) rfl rfl rfl (RdN.old hseg (by simp)) (by simp; omega) (allOne_map _ _) (by (repeat (first | exact Pl.here | apply Pl.there))) (by rw [List.length_map, List.length_range, hH.size]; omega) (by first | (left; simp; done) | (right; omega)) (by simp) ?_; refine sq qa ?_; refine l_nil ?_) | (refine c_region (id := 9) ?_; refine sq qm ?_; refine sq qm ?_; refine sq (by exact Qt.cast (v' := .int .i64 ((16 : Nat) : Int)) (congrArg (Value.int .i64) (by omega)) (q_add64 rfl rfl ⟨by omega, by omega⟩ rfl)) ?_; refine sq qa ?_; refine l_nil ?_) | (refine c_region (id := 10) ?_; refine sq qm ?_; refine sq qm ?_; refine sq (by exact q_slice (b' := if p.cap = (16 - c) then (some (⟨g, o, none⟩ : Addr)) else (some (⟨g, o, none⟩ : Addr)).map (·.add ((16 - c) * 1))) (len' := p.len - (16 - c)) (cap' := p.cap - (16 - c)) rfl rfl rfl (by omega) (by omega) (by omega) (by omega) (by rw [Int.toNat_natCast]) (by omega) (by omega)) ?_; refine sq qa ?_; refine l_nil ?_) | (refine c_region (id := 11) ?_; refine sq qm ?_; refine sq (by first | exact dlsst | exact dlssf) ?_; refine l_nil ?_) | (refine c_region (id := 12) ?_; refine sq (by exact q_slice_arr (o' := 0) (len' := 16) (cap' := 16) rfl rfl rfl (by omega) (by omega) (by omega) (by simp) (by simp) (by simp)) ?_; refine se ?_; refine e_call_upd rfl rfl (by kernel_rfl) rfl (fun w hC hm hL => by exact take_full _ _ _ _ rl rh _ _ _ _ _ (m' + 1) (0) 16 (by omega) (fq X (j0)) (hX _) (wd0_eq (hX _)).1 (wd1_eq (hX _)).1 (wd0_eq (hX _)).2 (wd1_eq (hX _)).2 (stS_next rl rh _ _ (j0)) (hSl _).1 (hSl _).2.1 (hSl _).2.2 hrl hrh (by omega) w (hL.old (k := 16) (by (repeat (first | exact List.Mem.head _ | apply List.Mem.tail))) (by exact hF.all)) (hL.sub (by (repeat (first | exact List.nil_sublist _ | exact List.Sublist.slnil | apply List.Sublist.cons_cons | exact List.Sublist.refl _ | apply List.Sublist.cons))))) (by (repeat (first | exact Pl.here | apply Pl.there))) (by first | (left; simp; done) | (right; omega)) ?_; intro m9 hm9; refine l_nil ?_) | refine n_then ?_ | refine c_block ?_ | refine c_skip ?_ | refine n_block ?_ | refine c_exit ?_ | refine n_then_exit ?_ | refine n_block_eq ?_ | refine n_block_ne rfl ?_ | refine c_ret ?_ | refine n_then_ret ?_ | refine n_block_ret ?_ | refine c_cond_t rfl ?_ | refine c_cond_f rfl ?_ | refine r_succ ?_ )
          refine c_joined ⟨j0 + 1, if p.cap = 16 - c then (some (⟨g, o, none⟩ : Addr)) else (some (⟨g, o, none⟩ : Addr)).map (·.add ((16 - c) * 1)), p.cap - (16 - c), setA H c ((List.range (16 - c)).map fun q => Value.int .u8 (fq X j0 (c + q))), m9⟩ ⟨by dsimp only; omega, by
            dsimp only
            rw [show off ps i + p.len - 16 * (j0 + 1) = p.len - (16 - c) by omega, show 16 * (j0 + 1) = off ps i + (16 - c) by omega, ← List.drop_drop, ← hpa]
            have h1 := hok.s.part (16 - c) p.len p.cap (by omega) (by omega) (by omega)
            rw [← hpx, List.drop_take, List.take_take, Nat.min_self] at h1
            exact h1, by dsimp only; omega, by dsimp only; rw [setA_size]; exact hH.size, by dsimp only; omega⟩ (by exact ⟨by dsimp only; rw [show off ps i + p.len - 16 * (j0 + 1) = p.len - (16 - c) by omega]; rfl, rfl, rfl, rfl, rfl, rfl, rfl, rfl, trivial⟩) (by rfl) (by (repeat (first | exact List.nil_sublist _ | exact List.Sublist.slnil | apply List.Sublist.cons_cons | exact List.Sublist.refl _ | apply List.Sublist.cons)))
        · have hnx : off ps (i + 1) / 16 = j0 ∧ off ps (i + 1) % 16 = c + p.len := by omega
          by_cases hz : p.len = 0
          · repeat (first | refine c_seq ?_ | (refine c_region (id := 7) ?_; refine sq qm ?_; refine sq (by first | exact dgtrt | exact dgtrf) ?_; refine l_nil ?_) | (refine c_region (id := 8) ?_; refine sq qm ?_; refine sq (by exact q_slice_arr (o' := c) (len' := 16 - c) (cap' := 16 - c) rfl rfl rfl (by omega) (by omega) (by omega) (by rw [Int.toNat_natCast, if_neg (by omega)]; omega) (by omega) (by omega)) ?_; refine sq qm ?_; refine se ?_; refine e_copy_none rfl rfl rfl (by omega) ?_; refine sq qa ?_; refine l_nil ?_) | (refine c_region (id := 9) ?_; refine sq qm ?_; refine sq qm ?_; refine sq (by exact Qt.cast (v' := .int .i64 ((c + p.len : Nat) : Int)) (congrArg (Value.int .i64) (by omega)) (q_add64 rfl rfl ⟨by omega, by omega⟩ rfl)) ?_; refine sq qa ?_; refine l_nil ?_) | (refine c_region (id := 10) ?_; refine sq qm ?_; refine sq qm ?_; refine sq (by exact q_slice (b' := if p.cap = 0 then p.a else p.a.map (·.add (0 * 1))) (len' := p.len - 0) (cap' := p.cap - 0) rfl rfl rfl (by omega) (by omega) (by omega) (by omega) (by rw [Int.toNat_zero]) (by omega) (by omega)) ?_; refine sq qa ?_; refine l_nil ?_) | (refine c_region (id := 11) ?_; refine sq qm ?_; refine sq (by first | exact dlsst | exact dlssf) ?_; refine l_nil ?_) | (refine c_region (id := 17) ?_; refine sq qadd64 ?_; refine sq qm ?_; refine l_nil ?_) | refine n_then ?_ | refine c_block ?_ | refine c_skip ?_ | refine n_block ?_ | refine c_exit ?_ | refine n_then_exit ?_ | refine n_block_eq ?_ | refine n_block_ne rfl ?_ | refine c_ret ?_ | refine n_then_ret ?_ | refine n_block_ret ?_ | refine c_cond_t rfl ?_ | refine c_cond_f rfl ?_ | refine r_succ ?_ )
            refine c_round ⟨i + 1, H, mm⟩ ⟨by dsimp only; omega, by dsimp only; rw [hnx.1, hnx.2, hz]; exact hH, hmm⟩ (by dsimp only; omega) (by exact ⟨rfl, by dsimp only; rw [hnx.2]; rfl, rfl, rfl, rfl, rfl, rfl, rfl, trivial⟩) (by rfl) (by rw [hnx.1]; exact (by (repeat (first | exact List.nil_sublist _ | exact List.Sublist.slnil | apply List.Sublist.cons_cons | exact List.Sublist.refl _ | apply List.Sublist.cons))))
          · obtain ⟨g, o, hpa, hOp⟩ := hok.s.get (i := 0) (by omega)
            have hseg : Old w g o ((List.range p.len).map fun q => Value.int .u8 (fq X j0 (c + q))) := by
              have h1 := hOp.tak p.len
              rw [← hpx, seg (by omega) (by omega)] at h1
              simpa only [hfq] using h1
            repeat (first | refine c_seq ?_ | (refine c_region (id := 7) ?_; refine sq qm ?_; refine sq (by first | exact dgtrt | exact dgtrf) ?_; refine l_nil ?_) | refine n_then ?_ | refine c_block ?_ | refine c_skip ?_ | refine n_block ?_ | refine c_exit ?_ | refine n_then_exit ?_ | refine n_block_eq ?_ | refine n_block_ne rfl ?_ | refine c_ret ?_ | refine n_then_ret ?_ | refine n_block_ret ?_ | refine c_cond_t rfl ?_ | refine c_cond_f rfl ?_ | refine r_succ ?_ )
            rw [show Value.slice p.a p.len p.cap = Value.slice (some ⟨g, o, none⟩) p.len p.cap by rw [hpa]]
            repeat (first | refine c_seq ?_ | (refine c_region (id := 8) ?_; refine sq qm ?_; refine sq (by exact q_slice_arr (o' := c) (len' := 16 - c) (cap' := 16 - c) rfl rfl rfl (by omega) (by omega) (by omega) (by rw [Int.toNat_natCast, if_neg (by omega)]; omega) (by omega) (by omega)) ?_; refine sq qm ?_; refine se ?_; refine e_copy (news := ((List.range p.len).map fun q => Value.int .u8 (fq X j0 (c + q)))) (k := p.len) rfl rfl rfl (RdN.old hseg (by simp)) (by simp; omega) (allOne_map _ _) (by (repeat (first | exact Pl.here | apply Pl.there))) (by rw [List.length_map, List.length_range, hH.size]; omega) (by first | (left; simp; done) | (right; omega)) (by simp) ?_; refine sq qa ?_; refine l_nil ?_) | (refine c_region (id := 9) ?_; refine sq qm ?_; refine sq qm ?_; refine sq (by exact Qt.cast (v' := .int .i64 ((c + p.len : Nat) : Int)) (congrArg (Value.int .i64) (by omega)) (q_add64 rfl rfl ⟨by omega, by omega⟩ rfl)) ?_; refine sq qa ?_; refine l_nil ?_) | (refine c_region (id := 10) ?_; refine sq qm ?_; refine sq qm ?_; refine sq (by exact q_slice (b' := if p.cap = p.len then (some (⟨g, o, none⟩ : Addr)) else (some (⟨g, o, none⟩ : Addr)).map (·.add (p.len * 1))) (len' := p.len - p.len) (cap' := p.cap - p.len) rfl rfl rfl (by omega) (by omega) (by omega) (by omega) (by rw [Int.toNat_natCast]) (by omega) (by omega)) ?_; refine sq qa ?_; refine l_nil ?_) | (refine c_region (id := 11) ?_; refine sq qm ?_; refine sq (by first | exact dlsst | exact dlssf) ?_; refine l_nil ?_) | (refine c_region (id := 17) ?_; refine sq qadd64 ?_; refine sq qm ?_; refine l_nil ?_) | refine n_then ?_ | refine c_block ?_ | refine c_skip ?_ | refine n_block ?_ | refine c_exit ?_ | refine n_then_exit ?_ | refine n_block_eq ?_ | refine n_block_ne rfl ?_ | refine c_ret ?_ | refine n_then_ret ?_ | refine n_block_ret ?_ | refine c_cond_t rfl ?_ | refine c_cond_f rfl ?_ | refine r_succ ?_ )
            refine c_round ⟨i + 1, setA H c ((List.range p.len).map fun q => Value.int .u8 (fq X j0 (c + q))), mm⟩ ⟨by dsimp only; omega, by dsimp only; rw [hnx.1, hnx.2]; exact hH.copy (by omega), hmm⟩ (by dsimp only; omega) (by exact ⟨rfl, by dsimp only; rw [hnx.2]; rfl, rfl, rfl, rfl, rfl, rfl, rfl, trivial⟩) (by rfl) (by rw [hnx.1]; exact (by (repeat (first | exact List.nil_sublist _ | exact List.Sublist.slnil | apply List.Sublist.cons_cons | exact List.Sublist.refl _ | apply List.Sublist.cons))))
    · rintro ⟨j, ba, cp, H, mm⟩ ⟨hj, hs, hcp, hHs, hmm2⟩
      dsimp only at hj hs hcp hHs hmm2 ⊢
      obtain ⟨dE, hdE⟩ : ∃ dE, dE = off ps i + p.len := ⟨_, rfl⟩
      rw [← hdE] at hj hs hcp hP2 ⊢
      have hdX : dE ≤ X.length := by omega
      clear hcj hfq hc hj0 hpx hpv
      repeat (first | refine c_seq ?_ | refine n_then ?_ | refine c_block ?_ | refine c_skip ?_ | refine n_block ?_ | refine c_exit ?_ | refine n_then_exit ?_ | refine n_block_eq ?_ | refine n_block_ne rfl ?_ | refine c_ret ?_ | refine n_then_ret ?_ | refine n_block_ret ?_ | refine c_cond_t rfl ?_ | refine c_cond_f rfl ?_ | refine r_succ ?_ )
      refine c_loop (γ := Nat × Option Addr × Nat × Nat) (fun z => [(9, .slice z.2.1 (dE - 16 * z.1) z.2.2.1), (15, .int .i64 i), (5, .pointer (some ⟨m', 0, none⟩)), (6, .pointer (some ⟨m' + 1, 0, none⟩)), (2, .pointer (some ⟨w.heap.size, 0, none⟩)), (4, .pointer (some ⟨w.heap.size + 1, 0, none⟩)), (13, .slice (some ⟨gp, 0, none⟩) ps.length cp0), (14, .int .i64 ps.length)]) (fun z => z.2.2.2) (fun z => [.blk (m' + 1) (.cells H 39 (0, 0)), .blk m' (.cells #[.int .u64 (((stS rl rh (fun j => wd0 (fq X j)) (fun j => wd1 (fq X j)) z.1).1 : Nat) : Int), .int .u64 (((stS rl rh (fun j => wd0 (fq X j)) (fun j => wd1 (fq X j)) z.1).2.1 : Nat) : Int), .int .u64 (((stS rl rh (fun j => wd0 (fq X j)) (fun j => wd1 (fq X j)) z.1).2.2 : Nat) : Int), .int .u64 (rl : Int), .int .u64 (rh : Int)] 76 (0, 0)), .blk (w.heap.size + 1) (.cells #[.int .u8 0, .int .u8 0, .int .u8 0, .int .u8 0, .int .u8 0, .int .u8 0, .int .u8 0, .int .u8 0, .int .u8 0, .int .u8 0, .int .u8 0, .int .u8 0, .int .u8 0, .int .u8 0, .int .u8 0, .int .u8 0] 39 (0, 0)), .blk w.heap.size (.cells (keyA kb) 23 (0, 0))]) (fun z => 16 * z.1 ≤ dE ∧ SlE (Value.int .u8) w z.2.1 ((X.drop (16 * z.1)).take (dE - 16 * z.1)) ∧ dE - 16 * z.1 ≤ z.2.2.1 ∧ m' + 2 ≤ z.2.2.2) (fun z => dE - 16 * z.1) ⟨j, ba, cp, mm⟩ ⟨hj, hs, hcp, hmm2⟩ (by exact ⟨rfl, rfl, rfl, rfl, rfl, rfl, rfl, rfl, trivial⟩) rfl (by (repeat (first | exact List.nil_sublist _ | exact List.Sublist.slnil | apply List.Sublist.cons_cons | exact List.Sublist.refl _ | apply List.Sublist.cons))) ?_
      rintro ⟨j, ba, cp, mm⟩ ⟨hj, hs, hcp, hmm2⟩
      dsimp only at hj hs hcp hmm2 ⊢
      have hlen : ((X.drop (16 * j)).take (dE - 16 * j)).length = dE - 16 * j := by simp; omega
      repeat (first | refine c_seq ?_ | (refine c_region (id := 13) ?_; refine sq qm ?_; refine sq qls ?_; refine sq qgeq ?_; refine l_nil ?_) | refine n_then ?_ | refine c_block ?_ | refine c_skip ?_ | refine n_block ?_ | refine c_exit ?_ | refine n_then_exit ?_ | refine n_block_eq ?_ | refine n_block_ne rfl ?_ | refine c_ret ?_ | refine n_then_ret ?_ | refine n_block_ret ?_ | refine c_cond_t rfl ?_ | refine c_cond_f rfl ?_ | refine r_succ ?_ )
      refine c_cond_dec rfl (fun hg16 => ?_) (fun hg16 => ?_)
      · obtain ⟨g, o, rfl, hOp⟩ := hs.get (i := 0) (by omega)
        have hO16 : Old w g o [.int .u8 (fq X j 0), .int .u8 (fq X j 1), .int .u8 (fq X j 2), .int .u8 (fq X j 3), .int .u8 (fq X j 4), .int .u8 (fq X j 5), .int .u8 (fq X j 6), .int .u8 (fq X j 7), .int .u8 (fq X j 8), .int .u8 (fq X j 9), .int .u8 (fq X j 10), .int .u8 (fq X j 11), .int .u8 (fq X j 12), .int .u8 (fq X j 13), .int .u8 (fq X j 14), .int .u8 (fq X j 15)] := by
          have h1 := hOp.tak 16
          rw [seg (by omega) (by omega)] at h1
          exact h1
        have hgl := hO16.lt
        repeat (first | refine c_seq ?_ | (refine c_region (id := 14) ?_; refine sq qm ?_; refine sq (by exact q_slice (b' := some ⟨g, o, none⟩) (len' := 16) (cap' := cp) rfl rfl rfl (by omega) (by omega) (by omega) (by omega) (by rw [if_neg (by omega)]; simp [Addr.add_mid]) (by simp) (by simp)) ?_; refine se ?_; refine e_call_upd rfl rfl (by kernel_rfl) rfl (fun w hC hm hL => by exact take_full _ _ _ _ rl rh _ _ _ _ _ (g) (o) cp (by omega) (fq X (j)) (hX _) (wd0_eq (hX _)).1 (wd1_eq (hX _)).1 (wd0_eq (hX _)).2 (wd1_eq (hX _)).2 (stS_next rl rh _ _ (j)) (hSl _).1 (hSl _).2.1 (hSl _).2.2 hrl hrh (by omega) w (hO16.ch hC (by simp)) (hL.sub (by (repeat (first | exact List.nil_sublist _ | exact List.Sublist.slnil | apply List.Sublist.cons_cons | exact List.Sublist.refl _ | apply List.Sublist.cons))))) (by (repeat (first | exact Pl.here | apply Pl.there))) (by first | (left; simp; done) | (right; omega)) ?_; intro m9 hm9; refine l_nil ?_) | (refine c_region (id := 15) ?_; refine sq qm ?_; refine sq (by exact q_slice (b' := if cp = 16 then (some (⟨g, o, none⟩ : Addr)) else (some (⟨g, o, none⟩ : Addr)).map (·.add (16 * 1))) (len' := dE - 16 * (j + 1)) (cap' := cp - 16) rfl rfl rfl (by omega) (by omega) (by omega) (by omega) (by rfl) (by show (dE - 16 * j : Nat) - 16 = _; omega) (by rfl)) ?_; refine sq qa ?_; refine l_nil ?_) | refine n_then ?_ | refine c_block ?_ | refine c_skip ?_ | refine n_block ?_ | refine c_exit ?_ | refine n_then_exit ?_ | refine n_block_eq ?_ | refine n_block_ne rfl ?_ | refine c_ret ?_ | refine n_then_ret ?_ | refine n_block_ret ?_ | refine c_cond_t rfl ?_ | refine c_cond_f rfl ?_ | refine r_succ ?_ )
        refine c_round ⟨j + 1, if cp = 16 then (some (⟨g, o, none⟩ : Addr)) else (some (⟨g, o, none⟩ : Addr)).map (·.add (16 * 1)), cp - 16, m9⟩ ⟨by dsimp only; omega, by
          dsimp only
          have h1 := hs.part 16 (dE - 16 * j) cp (by omega) (by omega) (by omega)
          rw [List.drop_take, List.take_take, Nat.min_self, List.drop_drop, show dE - 16 * j - 16 = dE - 16 * (j + 1) by omega, show 16 * j + 16 = 16 * (j + 1) by omega] at h1
          exact h1, by dsimp only; omega, by dsimp only; omega⟩ (by dsimp only; omega) (by exact ⟨rfl, rfl, rfl, rfl, rfl, rfl, rfl, rfl, trivial⟩) (by rfl) (by (repeat (first | exact List.nil_sublist _ | exact List.Sublist.slnil | apply List.Sublist.cons_cons | exact List.Sublist.refl _ | apply List.Sublist.cons)))
      · have hnx : off ps (i + 1) / 16 = j ∧ off ps (i + 1) % 16 = dE - 16 * j := by omega
        by_cases hz : dE - 16 * j = 0
        · repeat (first | refine c_seq ?_ | (refine c_region (id := 16) ?_; refine sq (by exact q_slice_arr (o' := 0) (len' := 16) (cap' := 16) rfl rfl rfl (by omega) (by omega) (by omega) (by simp) (by simp) (by simp)) ?_; refine sq qm ?_; refine se ?_; refine e_copy_none rfl rfl rfl (by omega) ?_; refine sq qa ?_; refine l_nil ?_) | (refine c_region (id := 17) ?_; refine sq qadd64 ?_; refine sq qm ?_; refine l_nil ?_) | refine n_then ?_ | refine c_block ?_ | refine c_skip ?_ | refine n_block ?_ | refine c_exit ?_ | refine n_then_exit ?_ | refine n_block_eq ?_ | refine n_block_ne rfl ?_ | refine c_ret ?_ | refine n_then_ret ?_ | refine n_block_ret ?_ | refine c_cond_t rfl ?_ | refine c_cond_f rfl ?_ | refine r_succ ?_ )
          refine c_round ⟨i + 1, H, mm⟩ ⟨by dsimp only; omega, by dsimp only; rw [hnx.1, hnx.2, hz]; exact ⟨hHs, by simp⟩, hmm2⟩ (by dsimp only; omega) (by exact ⟨rfl, by dsimp only; rw [hnx.2, hz]; rfl, rfl, rfl, rfl, rfl, rfl, rfl, trivial⟩) (by rfl) (by rw [hnx.1]; exact (by (repeat (first | exact List.nil_sublist _ | exact List.Sublist.slnil | apply List.Sublist.cons_cons | exact List.Sublist.refl _ | apply List.Sublist.cons))))
        · obtain ⟨g, o, rfl, hOp⟩ := hs.get (i := 0) (by omega)
          have hseg : Old w g o ((List.range (dE - 16 * j)).map fun q => Value.int .u8 (fq X j q)) := by
            have h1 := hOp.tak (dE - 16 * j)
            rw [seg (by omega) (by omega)] at h1
            exact h1
          repeat (first | refine c_seq ?_ | (refine c_region (id := 16) ?_; refine sq (by exact q_slice_arr (o' := 0) (len' := 16) (cap' := 16) rfl rfl rfl (by omega) (by omega) (by omega) (by simp) (by simp) (by simp)) ?_; refine sq qm ?_; refine se ?_; refine e_copy (news := ((List.range (dE - 16 * j)).map fun q => Value.int .u8 (fq X j q))) (k := dE - 16 * j) rfl rfl rfl (RdN.old hseg (by simp)) (by simp; omega) (allOne_map _ _) (by (repeat (first | exact Pl.here | apply Pl.there))) (by rw [List.length_map, List.length_range, hHs]; omega) (by first | (left; simp; done) | (right; omega)) (by simp) ?_; refine sq qa ?_; refine l_nil ?_) | (refine c_region (id := 17) ?_; refine sq qadd64 ?_; refine sq qm ?_; refine l_nil ?_) | refine n_then ?_ | refine c_block ?_ | refine c_skip ?_ | refine n_block ?_ | refine c_exit ?_ | refine n_then_exit ?_ | refine n_block_eq ?_ | refine n_block_ne rfl ?_ | refine c_ret ?_ | refine n_then_ret ?_ | refine n_block_ret ?_ | refine c_cond_t rfl ?_ | refine c_cond_f rfl ?_ | refine r_succ ?_ )
          refine c_round ⟨i + 1, setA H 0 ((List.range (dE - 16 * j)).map fun q => Value.int .u8 (fq X j q)), mm⟩ ⟨by dsimp only; omega, by dsimp only; rw [hnx.1, hnx.2]; exact HP.set0 hHs (by omega), hmm2⟩ (by dsimp only; omega) (by exact ⟨rfl, by dsimp only; rw [hnx.2]; rfl, rfl, rfl, rfl, rfl, rfl, rfl, trivial⟩) (by rfl) (by rw [hnx.1]; exact (by (repeat (first | exact List.nil_sublist _ | exact List.Sublist.slnil | apply List.Sublist.cons_cons | exact List.Sublist.refl _ | apply List.Sublist.cons))))
  · obtain rfl : i = ps.length := by omega
    have hoff : off ps ps.length = X.length := by rw [off_all, hXe]
    rw [hoff] at hH ⊢
    by_cases hm0 : X.length % 16 = 0
    · have hS := hSV (X.length / 16) (by omega)
      have hnb : nbl X.length = X.length / 16 := by unfold nbl; omega
      rw [hnb]
      repeat (first | refine c_seq ?_ | (refine c_region (id := 5) ?_; refine sq qlss ?_; refine l_nil ?_) | (refine c_region (id := 18) ?_; refine sq qm ?_; refine sq (by first | exact dgtrt | exact dgtrf) ?_; refine l_nil ?_) | (refine c_region (id := 20) ?_; refine sq (by first | exact qlb | exact qlr) ?_; refine se ?_; refine ecp rfl rfl (fun w hC hm hL => by exact pend_c kb hk _ _ _ (hSl _).1 (hSl _).2.1 _ _ _ w (hL.sub (by (repeat (first | exact List.nil_sublist _ | exact List.Sublist.slnil | apply List.Sublist.cons_cons | exact List.Sublist.refl _ | apply List.Sublist.cons))))) ?_; intro m' hm'; refine se ?_; refine esa ?_; refine l_nil ?_) | refine n_then ?_ | refine c_block ?_ | refine c_skip ?_ | refine n_block ?_ | refine c_exit ?_ | refine n_then_exit ?_ | refine n_block_eq ?_ | refine n_block_ne rfl ?_ | refine c_ret ?_ | refine n_then_ret ?_ | refine n_block_ret ?_ | refine c_cond_t rfl ?_ | refine c_cond_f rfl ?_ | refine r_succ ?_ )
      (first | apply r_ret () | apply r_end ()); exact rfl; exact rfl; exact (.row rfl (by (repeat (first | exact List.Mem.head _ | apply List.Mem.tail))) (by rfl) .nil); exact (congrArg Value.agg (code_end kb hk hS)); exact (List.nil_sublist _); exact new_nil; exact trivial
    · obtain ⟨r, hr⟩ : ∃ r, r = X.length % 16 := ⟨_, rfl⟩
      obtain ⟨jn, hjn⟩ : ∃ jn, jn = X.length / 16 := ⟨_, rfl⟩
      have hnb : nbl X.length = jn + 1 := by unfold nbl; omega
      rw [hnb]
      rw [← hr, ← hjn] at hH ⊢
      have hsb := shF_bd (fq X jn) (hX jn) r
      obtain ⟨F, hF⟩ := KR.next 0 (stS rl rh (fun j => wd0 (fq X j)) (fun j => wd1 (fq X j)) jn).1 (stS rl rh (fun j => wd0 (fq X j)) (fun j => wd1 (fq X j)) jn).2.1 (stS rl rh (fun j => wd0 (fq X j)) (fun j => wd1 (fq X j)) jn).2.2 rl rh (wd0 (shF (fq X jn) r)) (wd1 (shF (fq X jn) r))
      have hFl := hF.lt
      have hS : StV F (accV (vl (rcl kb)) (X.map Int.toNat) (jn + 1)) := (hSV jn (by omega)).next (bh := 0) (by omega) hF hFl (wd0_eq hsb).2 (wd1_eq hsb).2 (blk_tail X jn r (by omega) (by omega)) hrl0 hrh0 hR
      have hH2 : (H.toList.drop 0).take r = (List.range r).map fun i => Value.int .u8 (fq X jn i) := by rw [List.drop_zero]; exact hH.pre
      repeat (first | refine c_seq ?_ | (refine c_region (id := 5) ?_; refine sq qlss ?_; refine l_nil ?_) | (refine c_region (id := 18) ?_; refine sq qm ?_; refine sq (by first | exact dgtrt | exact dgtrf) ?_; refine l_nil ?_) | refine n_then ?_ | refine c_block ?_ | refine c_skip ?_ | refine n_block ?_ | refine c_exit ?_ | refine n_then_exit ?_ | refine n_block_eq ?_ | refine n_block_ne rfl ?_ | refine c_ret ?_ | refine n_then_ret ?_ | refine n_block_ret ?_ | refine c_cond_t rfl ?_ | refine c_cond_f rfl ?_ | refine r_succ ?_ )
      repeat (first | refine c_seq ?_ | (refine c_region (id := 19) ?_; refine sq qm ?_; refine sq (by exact q_slice_arr (o' := 0) (len' := r) (cap' := 16) rfl rfl rfl (by omega) (by omega) (by omega) (by simp) (by simp) (by simp)) ?_; refine se ?_; refine e_call_upd rfl rfl (by kernel_rfl) rfl (fun w hC hm hL => by exact take_short _ _ _ _ rl rh _ _ _ _ _ (m' + 1) 0 r 16 (by omega) (by omega) (fq X jn) (hX _) (wd0_eq hsb).1 (wd1_eq hsb).1 (wd0_eq hsb).2 (wd1_eq hsb).2 hF (hSl _).1 (hSl _).2.1 (hSl _).2.2 hrl hrh (by omega) w (hL.old (k := r) (by (repeat (first | exact List.Mem.head _ | apply List.Mem.tail))) hH2) (hL.sub (by (repeat (first | exact List.nil_sublist _ | exact List.Sublist.slnil | apply List.Sublist.cons_cons | exact List.Sublist.refl _ | apply List.Sublist.cons))))) (by (repeat (first | exact Pl.here | apply Pl.there))) (by first | (left; simp; done) | (right; omega)) ?_; intro m9 hm9; refine l_nil ?_) | refine n_then ?_ | refine c_block ?_ | refine c_skip ?_ | refine n_block ?_ | refine c_exit ?_ | refine n_then_exit ?_ | refine n_block_eq ?_ | refine n_block_ne rfl ?_ | refine c_ret ?_ | refine n_then_ret ?_ | refine n_block_ret ?_ | refine c_cond_t rfl ?_ | refine c_cond_f rfl ?_ | refine r_succ ?_ )
      repeat (first | refine c_seq ?_ | (refine c_region (id := 20) ?_; refine sq (by first | exact qlb | exact qlr) ?_; refine se ?_; refine ecp rfl rfl (fun w hC hm hL => by exact pend_c kb hk _ _ _ hFl.1 hFl.2.1 _ _ _ w (hL.sub (by (repeat (first | exact List.nil_sublist _ | exact List.Sublist.slnil | apply List.Sublist.cons_cons | exact List.Sublist.refl _ | apply List.Sublist.cons))))) ?_; intro m' hm'; refine se ?_; refine esa ?_; refine l_nil ?_) | refine n_then ?_ | refine c_block ?_ | refine c_skip ?_ | refine n_block ?_ | refine c_exit ?_ | refine n_then_exit ?_ | refine n_block_eq ?_ | refine n_block_ne rfl ?_ | refine c_ret ?_ | refine n_then_ret ?_ | refine n_block_ret ?_ | refine c_cond_t rfl ?_ | refine c_cond_f rfl ?_ | refine r_succ ?_ )
      (first | apply r_ret () | apply r_end ()); exact rfl; exact rfl; exact (.row rfl (by (repeat (first | exact List.Mem.head _ | apply List.Mem.tail))) (by rfl) .nil); exact (congrArg Value.agg (code_end kb hk hS)); exact (List.nil_sublist _); exact new_nil; exact trivial
end Go.Proofs.YteopejjlhmghbaaDoor
namespace Go.Proofs.YteopejjlhmghbaaDoor
open Go Go.RowKit
set_option linter.unusedVariables false
section
variable {P : Program} {n m d : Nat} {T : List (Nat × Value)} {X : List Nat} {w0 : World} {L L' : List Chunk} {K : Act → World → Prop} {Q : Exit → Act → World → Prop} {x y : Operand} {ty t e src : TypeId} {pos : String} {af : Array Edge} {gu : Option (Nat × Bool)}
theorem q_s2ap {k : Nat} {b : Option Addr} {len cap : Nat} {dst : Option Tmp} (hx : ev T x = some (.slice b len cap)) [hu : UT P t (.array k e)] (hk : k ≤ len) : Qt P X w0 ⟨dst, .sliceToArrayPointer t x, ty, pos, af, gu⟩ T L (.pointer b) := by
  refine ⟨?_⟩
  intro n a w hA hC hL
  simp [execOp, hA.eval hx, run_arrayAt (P := P) w t e k b len cap hu.h hk]
end
end Go.Proofs.YteopejjlhmghbaaDoor
namespace Go.Proofs.YteopejjlhmghbaaDoor
open Go Go.RowKit
set_option linter.unusedVariables false
inductive Sp : List Chunk → List Chunk → List Chunk → Prop
  | nil {L : List Chunk} : Sp [] L L
  | cons {c : Chunk} {A L L1 L' : List Chunk} (h : Rm c L L1) (hs : Sp A L1 L') : Sp (c :: A) L L'
theorem Rm.perm {c : Chunk} {L L' : List Chunk} (h : Rm c L L') : L.Perm (c :: L') := by
  obtain ⟨A, B, rfl, rfl⟩ := h.split
  exact List.perm_middle
theorem Sp.perm {A L L' : List Chunk} (h : Sp A L L') : L.Perm (A ++ L') := by
  induction h with
  | nil => exact List.Perm.refl _
  | cons h _ ih => exact h.perm.trans (ih.cons _)
theorem Sp.sub {A L L' : List Chunk} (h : Sp A L L') : L'.Sublist L := by
  induction h with
  | nil => exact List.Sublist.refl _
  | cons h _ ih => exact ih.trans h.sub
theorem Sp.has {A L L' : List Chunk} {w : World} (h : Sp A L L') (hL : Has L w) : Has A w ∧ Has L' w ∧ ∀ g ∈ feet A, g ∉ feet L' := by
  have h2 := hL.perm h.perm
  refine ⟨h2.sub (List.sublist_append_left _ _), h2.sub (List.sublist_append_right _ _), fun g hg hm => ?_⟩
  have := h2.apart
  rw [feet_append] at this
  exact (List.nodup_append.1 this).2.2 g hg g hm rfl
section
variable {P : Program} {n m d : Nat} {T : List (Nat × Value)} {X : List Nat} {w0 : World} {L L' A : List Chunk} {K : Act → World → Prop} {Q : Exit → Act → World → Prop}
  {ty : TypeId} {pos : String} {af : Array Edge} {gu : Option (Nat × Bool)}
end
end Go.Proofs.YteopejjlhmghbaaDoor
namespace Go.Proofs.YteopejjlhmghbaaDoor
open Go Go.RowKit
set_option linter.unusedVariables false
set_option linter.unusedSimpArgs false
theorem allOne_u (l : List Int) : allOne (l.map (Value.int .u8)) = true := by
  induction l with
  | nil => rfl
  | cons x l ih => simpa [allOne, Value.oneCell'] using ih
theorem blkL_bd (kb nb : Nat → Int) (c : Int) (i : Nat) : 0 ≤ (blkL kb nb c).getD i 0 ∧ (blkL kb nb c).getD i 0 ≤ 255 := by
  have h := strm_bd kb nb c
  by_cases hi : i < 64
  · have hl : (blkL kb nb c).length = 64 := by simp [blkL, outL]
    have h2 : (blkL kb nb c).getD i 0 ∈ blkL kb nb c := by rw [List.getD_eq_getElem?_getD, List.getElem?_eq_getElem (by omega), Option.getD_some]; exact List.getElem_mem _
    have key : ∀ x ∈ blkL kb nb c, 0 ≤ x ∧ x ≤ 255 := by
      intro x hx
      simp only [blkL, outL, List.mem_map] at hx
      obtain ⟨j, _, rfl⟩ := hx
      unfold outF
      split <;> first | omega | (unfold byt; omega)
    exact key _ h2
  · rw [List.getD_eq_getElem?_getD, List.getElem?_eq_none (by simp [blkL, outL]; omega)]; simp
def keyO (kb nb : Nat → Int) (i : Nat) : Int := (blkL kb nb 0).getD i 0
theorem keyO_bd (kb nb : Nat → Int) (i : Nat) : 0 ≤ keyO kb nb i ∧ keyO kb nb i ≤ 255 := blkL_bd kb nb 0 i
theorem keyO_take (kb nb : Nat → Int) : ((((outN (rnds 10 (s0 kb nb 0)) (s0 kb nb 0) 64).toList.drop 0).take 32).toArray) = keyA (keyO kb nb) := by
  have e : keyA (keyO kb nb) = (((List.range 32).map (keyO kb nb)).map (Value.int .u8)).toArray := rfl
  rw [e, List.drop_zero]
  congr 1
def rep0 (n : Nat) : List Int := List.replicate (nz n) 0
def macT (ad tu : List Int) : List Int := ad ++ (rep0 ad.length ++ (tu ++ (rep0 tu.length ++ (lil ad.length ++ lil tu.length))))
def codI (V : Nat) : List Int := (List.range 16).map fun q => ((V / 256 ^ q % 256 : Nat) : Int)
theorem codeB_I (V : Nat) : codeB V 16 = (codI V).map (Value.int .u8) := by
  unfold codeB codI
  rw [List.map_map]
  apply List.map_congr_left
  intro q hq
  have : q < 16 := List.mem_range.1 hq
  simp [this]
def codV (kb : Nat → Int) (X : List Int) : Nat := accV (vl (rcl kb)) (X.map Int.toNat) (nbl X.length) + vl (((List.range 16).map fun i => kb (16 + i)).map Int.toNat)
def macI (kb nb : Nat → Int) (ad tu : List Int) : List Int := codI (codV (keyO kb nb) (macT ad tu))
theorem macI_len (kb nb : Nat → Int) (ad tu : List Int) : (macI kb nb ad tu).length = 16 := rfl
theorem macI_bd (kb nb : Nat → Int) (ad tu : List Int) : ∀ x ∈ macI kb nb ad tu, 0 ≤ x ∧ x ≤ 255 := by
  intro x hx
  simp only [macI, codI, List.mem_map] at hx
  obtain ⟨q, _, rfl⟩ := hx
  omega
theorem lil_bd (n : Nat) : ∀ x ∈ lil n, 0 ≤ x ∧ x ≤ 255 := by
  intro x hx
  simp only [lil, List.mem_map] at hx
  obtain ⟨q, _, rfl⟩ := hx
  omega
theorem rep0_bd (n : Nat) : ∀ x ∈ rep0 n, 0 ≤ x ∧ x ≤ 255 := by
  intro x hx
  rw [List.eq_of_mem_replicate hx]; omega
theorem macT_len (ad tu : List Int) : (macT ad tu).length ≤ ad.length + tu.length + 46 := by
  have h1 := nz_lt ad.length
  have h2 := nz_lt tu.length
  simp [macT, rep0, lil]; omega
attribute [irreducible] codV
theorem mac_parts (kb nb : Nat → Int) (a1 : Option Addr) (l1 c1 : Nat) (xs : List Int) (hl1 : xs.length = l1) (hc1 : l1 ≤ c1) (hb1 : ∀ x ∈ xs, 0 ≤ x ∧ x ≤ 255) (hz1 : l1 ≤ 20000) (a2 : Option Addr) (l2 c2 : Nat) (ys : List Int) (hl2 : ys.length = l2) (hc2 : l2 ≤ c2) (hb2 : ∀ x ∈ ys, 0 ≤ x ∧ x ≤ 255) (hz2 : l2 ≤ 20000) (w : World) {L : List Chunk} (hL : Has L w) (g1 g2 g3 m3 : Nat) {T5 : TypeId}
    (h1 : Chunk.sl (some ⟨g1, 0, none⟩) (nz l2) 5 1 ((rep0 l2).map (Value.int .u8)) ∈ L) (h2 : Chunk.sl (some ⟨g2, 0, none⟩) (nz l1) 5 1 ((rep0 l1).map (Value.int .u8)) ∈ L) (h3 : Chunk.blk g3 (.cells ((lil l2 ++ lil l1).map (Value.int .u8)).toArray 5 (0, 0)) ∈ L)
    (h4 : Chunk.blk m3 (.cells #[.slice a2 l2 c2, .slice (some ⟨g1, 0, none⟩) (nz l2) (nz l2), .slice a1 l1 c1, .slice (some ⟨g2, 0, none⟩) (nz l1) (nz l1), .slice (some ⟨g3, 0, none⟩) 16 16] T5 (0, 0)) ∈ L)
    (hs1 : SlE (Value.int .u8) w a1 xs) (hs2 : SlE (Value.int .u8) w a2 ys) : CA Tryd.prog 18 [.agg (keyA (keyO kb nb)), .slice (some ⟨m3, 0, none⟩) 5 5] w (RV (.agg ((macI kb nb ys xs).map (Value.int .u8)).toArray) w) := by
  have hz8 := nz_lt l1
  have hz9 := nz_lt l2
  have h9 := code_parts (keyO kb nb) (keyO_bd kb nb) [⟨a2, l2, c2, ys⟩, ⟨some ⟨g1, 0, none⟩, nz l2, nz l2, rep0 l2⟩, ⟨a1, l1, c1, xs⟩, ⟨some ⟨g2, 0, none⟩, nz l1, nz l1, rep0 l1⟩, ⟨some ⟨g3, 0, none⟩, 16, 16, lil l2 ++ lil l1⟩] m3 5 (macT ys xs) (by unfold macT joined; rw [hl1, hl2]; simp) (by simp) (by have := macT_len ys xs; omega) w (by
    intro p hp
    simp only [List.mem_cons, List.not_mem_nil, or_false] at hp
    rcases hp with rfl | rfl | rfl | rfl | rfl
    · exact ⟨hs2, hl2, hc2, hb2⟩
    · exact ⟨SlE.own hL h1 (⟨Nat.le_refl _, by omega, .inr ⟨_, rfl⟩, fun _ _ => .inr (Nat.zero_le _)⟩ : OS [] 0 _ (nz l2) (nz l2)), by simp [rep0], Nat.le_refl _, rep0_bd _⟩
    · exact ⟨hs1, hl1, hc1, hb1⟩
    · exact ⟨SlE.own hL h2 (⟨Nat.le_refl _, by omega, .inr ⟨_, rfl⟩, fun _ _ => .inr (Nat.zero_le _)⟩ : OS [] 0 _ (nz l1) (nz l1)), by simp [rep0], Nat.le_refl _, rep0_bd _⟩
    · exact ⟨SlE.blk hL h3 0 16 (by rfl), by simp [lil], Nat.le_refl _, fun x hx => (List.mem_append.1 hx).elim (lil_bd _ x) (lil_bd _ x)⟩) (hL.old (k := 5) h4 (by rfl))
  rw [codeB_I] at h9
  unfold macI codV
  exact h9
set_option maxRecDepth 100000 in
set_option maxHeartbeats 4000000 in
theorem codeOf_c (kb nb : Nat → Int) (hk : ∀ i, 0 ≤ kb i ∧ kb i ≤ 255) (hn : ∀ i, 0 ≤ nb i ∧ nb i ≤ 255) (a1 : Option Addr) (l1 c1 : Nat) (xs : List Int) (hl1 : xs.length = l1) (hc1 : l1 ≤ c1) (hb1 : ∀ x ∈ xs, 0 ≤ x ∧ x ≤ 255) (hz1 : l1 ≤ 20000) (a2 : Option Addr) (l2 c2 : Nat) (ys : List Int) (hl2 : ys.length = l2) (hc2 : l2 ≤ c2) (hb2 : ∀ x ∈ ys, 0 ≤ x ∧ x ≤ 255) (hz2 : l2 ≤ 20000) (w : World) (hs1 : SlE (Value.int .u8) w a1 xs) (hs2 : SlE (Value.int .u8) w a2 ys) :
    CA Tryd.prog 12 [.agg (keyA kb), .agg (nonA nb), .slice a1 l1 c1, .slice a2 l2 c2] w (RV (.agg ((macI kb nb ys xs).map (Value.int .u8)).toArray) w) := by
  have hz8 := nz_lt l1
  have hz9 := nz_lt l2
  refine enter (L := []) (X := []) Tryd.func12 rfl Tryd.ntmps12 rfl rfl (Has.nil _) ?_
  repeat (first | refine c_seq ?_ | (refine c_region (id := 0) ?_; refine se ?_; refine eb ?_; refine se ?_; refine eb ?_; refine se ?_; refine ea ?_; refine l_nil ?_) | (refine c_region (id := 1) ?_; refine sq (by first | exact qlb | exact qlr) ?_; refine sq (by first | exact qlb | exact qlr) ?_; refine se ?_; refine ecp rfl rfl (fun w hC hm hL => block_c kb nb hk hn 0 w) ?_; intro m' hm'; refine se ?_; refine ea ?_; refine se ?_; refine esa ?_; refine l_nil ?_) | refine n_then ?_ | refine c_block ?_ | refine c_skip ?_ | refine n_block ?_ | refine c_exit ?_ | refine n_then_exit ?_ | refine n_block_eq ?_ | refine n_block_ne rfl ?_ | refine c_ret ?_ | refine n_then_ret ?_ | refine n_block_ret ?_ | refine c_cond_t rfl ?_ | refine c_cond_f rfl ?_ | refine r_succ ?_ )
  repeat (first | refine c_seq ?_ | (refine x_region (id := 2) (some 17) [(0, .n), (1, .n), (2, .q), (3, .n), (4, .n), (5, .n), (7, .n), (8, .n), (9, .n), (11, .n), (12, .n), (13, .n), (14, .n), (6, .e), (10, .e), (15, .e), (16, .e), (17, .b), (18, .e)] _ mixed (by kernel_rfl) (List.Sublist.refl _) ?_; refine xn rfl qsa ?_; refine xn rfl (by exact q_s2ap rfl (by omega)) ?_; refine xq rfl (by exact Qt.cast (congrArg Value.agg (keyO_take kb nb)) (q_load_row rfl (RdN.blk (o := 0) (by (repeat (first | exact List.Mem.head _ | apply List.Mem.tail))) (by rw [List.length_take]; rfl)) (by rfl))) ?_; refine xn rfl qm ?_; refine xn rfl qm ?_; refine xn rfl qls ?_; refine xn rfl qm ?_; refine xn rfl qm ?_; refine xn rfl qls ?_; refine xn rfl qm ?_; refine xn rfl qls ?_; refine xn rfl qm ?_; refine xn rfl qls ?_; refine x_e rfl ?_; (first | (refine ecl rfl rfl (fun w hC hm hL => noughts_c l2 (by omega) w) ?_; intro g1 m1 _ hn1 hm1) | (refine ecl rfl rfl (fun w hC hm hL => noughts_c l1 (by omega) w) ?_; intro g2 m2 _ hn2 hm2)); refine xk ?_; refine x_e rfl ?_; (first | (refine ecl rfl rfl (fun w hC hm hL => noughts_c l2 (by omega) w) ?_; intro g1 m1 _ hn1 hm1) | (refine ecl rfl rfl (fun w hC hm hL => noughts_c l1 (by omega) w) ?_; intro g2 m2 _ hn2 hm2)); refine xk ?_; refine x_e rfl ?_; refine ecl rfl rfl (fun w hC hm hL => lengths_c l2 l1 (by omega) (by omega) w) ?_; intro g3 m3 _ hn3 hm3; refine xk ?_; refine x_e rfl ?_; refine ebs ?_; refine xk ?_; refine x_b rfl ?_; refine ecp rfl rfl (fun w hC hm hL => by exact mac_parts kb nb a1 l1 c1 xs hl1 hc1 hb1 hz1 a2 l2 c2 ys hl2 hc2 hb2 hz2 w hL g1 g2 g3 m3 (by (repeat (first | exact List.Mem.head _ | apply List.Mem.tail))) (by (repeat (first | exact List.Mem.head _ | apply List.Mem.tail))) (by (repeat (first | exact List.Mem.head _ | apply List.Mem.tail))) (by (repeat (first | exact List.Mem.head _ | apply List.Mem.tail))) (hs1.ch0 hC) (hs2.ch0 hC)) ?_; intro m' hm'; refine x_k (List.nil_sublist _) ?_; refine x_e rfl ?_; refine esa ?_; refine xk ?_; refine x_nil ?_) | refine n_then ?_ | refine c_block ?_ | refine c_skip ?_ | refine n_block ?_ | refine c_exit ?_ | refine n_then_exit ?_ | refine n_block_eq ?_ | refine n_block_ne rfl ?_ | refine c_ret ?_ | refine n_then_ret ?_ | refine n_block_ret ?_ | refine c_cond_t rfl ?_ | refine c_cond_f rfl ?_ | refine r_succ ?_ )
  (first | apply r_ret () | apply r_end ()); exact rfl; exact rfl; exact (.row rfl (by (repeat (first | exact List.Mem.head _ | apply List.Mem.tail))) (by rfl) .nil); exact rfl; exact (List.nil_sublist _); exact new_nil; exact trivial
end Go.Proofs.YteopejjlhmghbaaDoor
namespace Go.Proofs.YteopejjlhmghbaaDoor
open Go Go.RowKit
set_option linter.unusedVariables false
set_option linter.unusedSimpArgs false
def tur (kb nb : Nat → Int) (xs : List Int) : List Int := outI xs kb nb 1 xs.length
theorem tur_len (kb nb : Nat → Int) (xs : List Int) : (tur kb nb xs).length = xs.length := outI_len _ _ _ _ _
theorem tur_bd (kb nb : Nat → Int) (xs : List Int) (hx : ∀ x ∈ xs, 0 ≤ x ∧ x ≤ 255) : ∀ x ∈ tur kb nb xs, 0 ≤ x ∧ x ≤ 255 := by
  intro x h
  simp only [tur, outI, List.mem_map] at h
  obtain ⟨i, _, rfl⟩ := h
  split
  · unfold bits; simp only [IntKind.wrap_u8']; omega
  · omega
def sealL (kb nb : Nat → Int) (xs ys : List Int) : List Int := tur kb nb xs ++ macI kb nb ys (tur kb nb xs)
theorem sealL_len (kb nb : Nat → Int) (xs ys : List Int) : (sealL kb nb xs ys).length = xs.length + 16 := by
  unfold sealL; rw [List.length_append, tur_len]; rfl
theorem sealL_bd (kb nb : Nat → Int) (xs ys : List Int) (hx : ∀ x ∈ xs, 0 ≤ x ∧ x ≤ 255) : ∀ x ∈ sealL kb nb xs ys, 0 ≤ x ∧ x ≤ 255 :=
  fun x h => (List.mem_append.1 h).elim (tur_bd kb nb xs hx x) (macI_bd _ _ _ _ x)
theorem xorI_c (kb nb : Nat → Int) (hk : ∀ i, 0 ≤ kb i ∧ kb i ≤ 255) (hn : ∀ i, 0 ≤ nb i ∧ nb i ≤ 255) (a : Option Addr) (len cap : Nat) (zs : List Int) (hlen : len ≤ 1000000) (hcap : len ≤ cap) (hzl : zs.length = len) (w : World) (hs : SlE (Value.int .u8) w a zs) :
    CA Tryd.prog 11 [.agg (keyA kb), .agg (nonA nb), .int .u32 1, .slice a len cap] w (Ret (fun g : Nat => .slice (some ⟨g, 0, none⟩) len len) [] (fun g => [.sl (some ⟨g, 0, none⟩) len 5 1 ((tur kb nb zs).map (Value.int .u8))]) (fun _ => True) w) := by
  have h := xor_c kb nb hk hn 1 (by unfold W32; omega) a len cap zs hlen hcap w (hs.slB' hzl)
  simp only [outX_eq] at h
  unfold tur
  rw [hzl]
  exact h
theorem rxorI_c (kb nb : Nat → Int) (hk : ∀ i, 0 ≤ kb i ∧ kb i ≤ 255) (hn : ∀ i, 0 ≤ nb i ∧ nb i ≤ 255) (a : Option Addr) (len cap : Nat) (zs : List Int) (hz : ∀ x ∈ zs, 0 ≤ x ∧ x ≤ 255) (hlen : len ≤ 1000000) (hcap : len ≤ cap) (hzl : zs.length = len) (w : World) (hs : SlE (Value.int .u8) w a zs) :
    CA Tryd.prog 23 [.agg (keyA kb), .agg (nonA nb), .int .u32 1, .slice a len cap] w (RLe (Value.int .u8) 5 (fun l => l = tur kb nb zs) w) := by
  have h := rxor_c kb nb hk hn 1 (by unfold W32; omega) a len cap zs hz hlen hcap w (hs.slB' hzl)
  simp only [outX_eq] at h
  have hl : (outI zs kb nb 1 len).length = len := by rw [outI_len, hzl]
  refine ⟨Calls.mono h.h ?_⟩
  rintro e w' ⟨⟨b, cp⟩, rfl, hc, hh, hn, hob, h1, h2⟩
  refine ⟨(b, cp, outI zs kb nb 1 len), by dsimp only; rw [hl], hc, hh, hn, ⟨by rw [hl]; exact h1, h2, ?_⟩, by unfold tur; rw [hzl]⟩
  rcases hob with ⟨e1, e2⟩ | e1
  · exact .inl ⟨e1, by simpa using congrArg List.length e2⟩
  · exact .inr e1
set_option maxRecDepth 100000 in
set_option maxHeartbeats 4000000 in
theorem seal_c (kb nb : Nat → Int) (hk : ∀ i, 0 ≤ kb i ∧ kb i ≤ 255) (hn : ∀ i, 0 ≤ nb i ∧ nb i ≤ 255) (a1 : Option Addr) (l1 c1 : Nat) (xs : List Int) (hl1 : xs.length = l1) (hc1 : l1 ≤ c1) (hb1 : ∀ x ∈ xs, 0 ≤ x ∧ x ≤ 255) (hz1 : l1 ≤ 20000) (a2 : Option Addr) (l2 c2 : Nat) (ys : List Int) (hl2 : ys.length = l2) (hc2 : l2 ≤ c2) (hb2 : ∀ x ∈ ys, 0 ≤ x ∧ x ≤ 255) (hz2 : l2 ≤ 20000) (w : World) (hs1 : SlE (Value.int .u8) w a1 xs) (hs2 : SlE (Value.int .u8) w a2 ys) :
    CA Tryd.prog 8 [.agg (keyA kb), .agg (nonA nb), .slice a1 l1 c1, .slice a2 l2 c2] w (RLe (Value.int .u8) 5 (fun l => l = sealL kb nb xs ys) w) := by
  have htl := tur_len kb nb xs
  have hml := macI_len kb nb ys (tur kb nb xs)
  refine enter (L := []) (X := []) Tryd.func8 rfl Tryd.ntmps8 rfl rfl (Has.nil _) ?_
  repeat (first | refine c_seq ?_ | (refine c_region (id := 0) ?_; refine se ?_; refine eb ?_; refine se ?_; refine eb ?_; refine sq qa ?_; refine l_nil ?_) | (refine c_region (id := 1) ?_; refine sq (by first | exact qlb | exact qlr) ?_; refine sq (by first | exact qlb | exact qlr) ?_; refine sq qm ?_; refine se ?_; refine ecl rfl rfl (fun w hC hm hL => by exact xorI_c kb nb hk hn a1 l1 c1 xs (by omega) hc1 hl1 w (hs1.ch0 hC)) ?_; intro g1 m1 _ hn1 hm1; refine sq qa ?_; refine l_nil ?_) | refine n_then ?_ | refine c_block ?_ | refine c_skip ?_ | refine n_block ?_ | refine c_exit ?_ | refine n_then_exit ?_ | refine n_block_eq ?_ | refine n_block_ne rfl ?_ | refine c_ret ?_ | refine n_then_ret ?_ | refine n_block_ret ?_ | refine c_cond_t rfl ?_ | refine c_cond_f rfl ?_ | refine r_succ ?_ )
  repeat (first | refine c_seq ?_ | (refine c_region (id := 2) ?_; refine sq (by first | exact qlb | exact qlr) ?_; refine sq (by first | exact qlb | exact qlr) ?_; refine sq qm ?_; refine sq qm ?_; refine se ?_; refine ecp rfl rfl (fun w hC hm hL => by exact codeOf_c kb nb hk hn _ l1 l1 (tur kb nb xs) (by omega) (Nat.le_refl _) (tur_bd kb nb xs hb1) (by omega) a2 l2 c2 ys hl2 hc2 hb2 hz2 w (SlE.own hL (by (repeat (first | exact List.Mem.head _ | apply List.Mem.tail))) (⟨Nat.le_refl _, by omega, .inr ⟨_, rfl⟩, fun _ _ => .inr (Nat.zero_le _)⟩ : OS [] 0 _ l1 l1)) (hs2.ch0 hC)) ?_; intro m' hm'; refine se ?_; refine ea ?_; refine se ?_; refine esa ?_; refine l_nil ?_) | refine n_then ?_ | refine c_block ?_ | refine c_skip ?_ | refine n_block ?_ | refine c_exit ?_ | refine n_then_exit ?_ | refine n_block_eq ?_ | refine n_block_ne rfl ?_ | refine c_ret ?_ | refine n_then_ret ?_ | refine n_block_ret ?_ | refine c_cond_t rfl ?_ | refine c_cond_f rfl ?_ | refine r_succ ?_ )
  have ho1 : OS [] w.heap.size (some ⟨g1, 0, none⟩) l1 l1 := ⟨Nat.le_refl _, by omega, .inr ⟨_, rfl⟩, fun g hg => by have := hn1 g (by simpa [feet, Chunk.foot] using hg); exact .inr (by omega)⟩
  repeat (first | refine c_seq ?_ | (refine c_region (id := 3) ?_; refine sq qm ?_; refine sq qsa ?_; refine se ?_; refine e_appE (Value.int .u8) (tur kb nb xs) (macI kb nb ys (tur kb nb xs)) rfl rfl rfl (by (repeat (first | exact Rm.here | apply Rm.there))) (.inr ⟨_, rfl, RdN.blk (o := 0) (by (repeat (first | exact List.Mem.head _ | apply List.Mem.tail))) (by rw [List.drop_zero]; exact List.take_length)⟩) (by omega) hml ho1 (allOne_u _) (by omega) (by omega) ?_; intro b2 cap2 m2 ho2 hm2; refine sq qa ?_; refine l_nil ?_) | refine n_then ?_ | refine c_block ?_ | refine c_skip ?_ | refine n_block ?_ | refine c_exit ?_ | refine n_then_exit ?_ | refine n_block_eq ?_ | refine n_block_ne rfl ?_ | refine c_ret ?_ | refine n_then_ret ?_ | refine n_block_ret ?_ | refine c_cond_t rfl ?_ | refine c_cond_f rfl ?_ | refine r_succ ?_ )
  have e1 : l1 + 16 = (sealL kb nb xs ys).length := by rw [sealL_len, hl1]
  rw [e1] at ho2 ⊢
  (first | apply r_ret (b2, cap2, sealL kb nb xs ys) | apply r_end (b2, cap2, sealL kb nb xs ys)); exact rfl; exact rfl; exact (.tmp rfl .nil); exact rfl; exact (by exact (by (repeat (first | exact List.nil_sublist _ | exact List.Sublist.slnil | apply List.Sublist.cons_cons | exact List.Sublist.refl _ | apply List.Sublist.cons)))); exact (new_sl ho2.newc new_nil); exact ⟨by have h9 := ho2.ret; exact h9, rfl⟩
set_option maxRecDepth 100000 in
set_option maxHeartbeats 4000000 in
theorem fill_c (a : Option Addr) (len cap : Nat) (xs : List Int) (hxl : xs.length = len) (hl : len ≤ 1000000) (w : World) (hs : SlE (Value.int .u8) w a xs) :
    CA Tryd.prog 25 [.slice a len cap] w (RLe (Value.int .u8) 5 (fun zs => zs = xs ++ rep0 len) w) := by
  have hnz : nz len = (16 - len % 16) % 16 := rfl
  refine enter (L := []) (X := []) Tryd.func25 rfl Tryd.ntmps25 rfl rfl (Has.nil _) ?_
  repeat (first | refine c_seq ?_ | (refine c_region (id := 0) ?_; refine sq qa ?_; refine l_nil ?_) | (refine c_region (id := 1) ?_; refine sq qa ?_; refine l_nil ?_) | refine n_then ?_ | refine c_block ?_ | refine c_skip ?_ | refine n_block ?_ | refine c_exit ?_ | refine n_then_exit ?_ | refine n_block_eq ?_ | refine n_block_ne rfl ?_ | refine c_ret ?_ | refine n_then_ret ?_ | refine n_block_ret ?_ | refine c_cond_t rfl ?_ | refine c_cond_f rfl ?_ | refine r_succ ?_ )
  refine add_nil 5 1 ?_
  repeat (first | refine c_seq ?_ | (refine c_region (id := 2) ?_; refine sq qm ?_; refine sq qm ?_; refine se ?_; refine e_appE (Value.int .u8) ([] : List Int) xs rfl rfl rfl (by (repeat (first | exact Rm.here | apply Rm.there))) (hs.vw) (by first | rfl | omega | simp) hxl (OS.nil _ _) (allOne_u _) (by omega) (by omega) ?_; intro b1 cap1 m1 ho1 hm1; refine sq qa ?_; refine l_nil ?_) | refine n_then ?_ | refine c_block ?_ | refine c_skip ?_ | refine n_block ?_ | refine c_exit ?_ | refine n_then_exit ?_ | refine n_block_eq ?_ | refine n_block_ne rfl ?_ | refine c_ret ?_ | refine n_then_ret ?_ | refine n_block_ret ?_ | refine c_cond_t rfl ?_ | refine c_cond_f rfl ?_ | refine r_succ ?_ )
  rw [Nat.zero_add] at ho1
  refine c_loop (γ := Nat × Option Addr × Nat × Nat) (fun z => [(3, .slice z.2.1 (len + z.1) z.2.2.1), (0, .slice a len cap)]) (fun z => z.2.2.2) (fun z => [.sl z.2.1 z.2.2.1 5 1 ((xs ++ List.replicate z.1 (0 : Int)).map (Value.int .u8))]) (fun z => z.1 ≤ nz len ∧ OS [] w.heap.size z.2.1 z.2.2.1 (len + z.1) ∧ w.heap.size ≤ z.2.2.2) (fun z => nz len - z.1) ⟨0, b1, cap1, m1⟩ ⟨by simp, ho1, by dsimp only; omega⟩ ⟨by rw [Nat.zero_add]; rfl, rfl, trivial⟩ rfl (by rw [List.replicate_zero, List.append_nil]; exact (by (repeat (first | exact List.nil_sublist _ | exact List.Sublist.slnil | apply List.Sublist.cons_cons | exact List.Sublist.refl _ | apply List.Sublist.cons)))) ?_
  clear ho1 hm1
  rintro ⟨i, b, cap1, mm⟩ ⟨hi, ho, hmm⟩
  dsimp only at hi ho hmm ⊢
  by_cases h8 : i < nz len
  · repeat (first | refine c_seq ?_ | (refine c_region (id := 3) ?_; refine sq qm ?_; refine sq qls ?_; refine sq qrem ?_; refine sq (by first | exact dneqt | exact dneqf) ?_; refine l_nil ?_) | (refine c_region (id := 4) ?_; refine sq qm ?_; refine se ?_; refine ebs ?_; refine se ?_; refine e_appM (Value.int .u8) (xs ++ List.replicate i 0) (0 : Int) rfl rfl rfl (by (repeat (first | exact Rm.here | apply Rm.there))) (by (repeat (first | exact List.Mem.head _ | apply List.Mem.tail))) (by simp [hxl]) ho (by rfl) (by omega) (by omega) ?_; intro b2 cap2 m2 ho2 hm2; refine sq qa ?_; refine l_nil ?_) | refine n_then ?_ | refine c_block ?_ | refine c_skip ?_ | refine n_block ?_ | refine c_exit ?_ | refine n_then_exit ?_ | refine n_block_eq ?_ | refine n_block_ne rfl ?_ | refine c_ret ?_ | refine n_then_ret ?_ | refine n_block_ret ?_ | refine c_cond_t rfl ?_ | refine c_cond_f rfl ?_ | refine r_succ ?_ )
    refine c_round ⟨i + 1, b2, cap2, m2⟩ ⟨by dsimp only; omega, ho2, by dsimp only; omega⟩ (by dsimp only; omega) ⟨rfl, rfl, trivial⟩ (by rfl) (by rw [List.replicate_succ', ← List.append_assoc]; exact (by (repeat (first | exact List.nil_sublist _ | exact List.Sublist.slnil | apply List.Sublist.cons_cons | exact List.Sublist.refl _ | apply List.Sublist.cons))))
  · obtain rfl : i = nz len := by omega
    repeat (first | refine c_seq ?_ | (refine c_region (id := 3) ?_; refine sq qm ?_; refine sq qls ?_; refine sq qrem ?_; refine sq (by first | exact dneqt | exact dneqf) ?_; refine l_nil ?_) | (refine c_region (id := 5) ?_; refine sq qm ?_; refine sq qa ?_; refine l_nil ?_) | refine n_then ?_ | refine c_block ?_ | refine c_skip ?_ | refine n_block ?_ | refine c_exit ?_ | refine n_then_exit ?_ | refine n_block_eq ?_ | refine n_block_ne rfl ?_ | refine c_ret ?_ | refine n_then_ret ?_ | refine n_block_ret ?_ | refine c_cond_t rfl ?_ | refine c_cond_f rfl ?_ | refine r_succ ?_ )
    have e1 : len + nz len = (xs ++ rep0 len).length := by simp [rep0, hxl]
    rw [e1] at ho ⊢
    refine chg (L' := [.sl b cap1 5 1 ((xs ++ rep0 len).map (Value.int .u8))]) (by rfl) ?_
    (first | apply r_ret (b, cap1, xs ++ rep0 len) | apply r_end (b, cap1, xs ++ rep0 len)); exact rfl; exact rfl; exact (.tmp rfl .nil); exact rfl; exact (by exact (by (repeat (first | exact List.nil_sublist _ | exact List.Sublist.slnil | apply List.Sublist.cons_cons | exact List.Sublist.refl _ | apply List.Sublist.cons)))); exact (new_sl ho.newc new_nil); exact ⟨by have h9 := ho.ret; exact h9, rfl⟩
def onceL (kb nb : Nat → Int) (i : Nat) : List Value := (List.range 32).map fun j => .int .u8 (if j < i then keyO kb nb j else 0)
theorem onceL_set (kb nb : Nat → Int) (i : Nat) (hi : i < 32) : (onceL kb nb i).toArray.setIfInBounds i (.int .u8 (keyO kb nb i)) = (onceL kb nb (i + 1)).toArray := by
  apply Array.ext'
  rw [Array.toList_setIfInBounds]
  apply List.ext_getElem
  · simp [onceL]
  · intro q h1 h2
    simp only [onceL, List.getElem_set, List.getElem_map, List.getElem_range]
    by_cases e : i = q
    · subst e; rw [if_pos rfl, if_pos (by omega)]
    · rw [if_neg e]
      by_cases h3 : q < i
      · rw [if_pos h3, if_pos (by omega)]
      · rw [if_neg h3, if_neg (by omega)]
theorem rmac_c (kb nb : Nat → Int) (ad tu : List Int) (h1 : ∀ x ∈ ad, 0 ≤ x ∧ x ≤ 255) (h2 : ∀ x ∈ tu, 0 ≤ x ∧ x ≤ 255) (l1 : ad.length ≤ 20000) (l2 : tu.length ≤ 20000) (b : Option Addr) (cap : Nat) (hc : (macT ad tu).length ≤ cap) (w : World) (hs : SlE (Value.int .u8) w b (macT ad tu)) :
    CA Tryd.prog 27 [.agg (keyA (keyO kb nb)), .slice b (macT ad tu).length cap] w (RV (.agg ((macI kb nb ad tu).map (Value.int .u8)).toArray) w) := by
  have h9 := rcode_c (keyO kb nb) (keyO_bd kb nb) b (macT ad tu).length cap (macT ad tu) (by
    intro x hx
    simp only [macT, List.mem_append] at hx
    rcases hx with hx | hx | hx | hx | hx | hx
    · exact h1 x hx
    · exact rep0_bd _ x hx
    · exact h2 x hx
    · exact rep0_bd _ x hx
    · exact lil_bd _ x hx
    · exact lil_bd _ x hx) (by have := macT_len ad tu; omega) rfl hc w hs
  rw [codeB_I] at h9
  unfold macI codV
  exact h9
set_option maxRecDepth 100000 in
set_option maxHeartbeats 4000000 in
theorem rseal_c (kb nb : Nat → Int) (hk : ∀ i, 0 ≤ kb i ∧ kb i ≤ 255) (hn : ∀ i, 0 ≤ nb i ∧ nb i ≤ 255) (a1 : Option Addr) (l1 c1 : Nat) (xs : List Int) (hl1 : xs.length = l1) (hc1 : l1 ≤ c1) (hb1 : ∀ x ∈ xs, 0 ≤ x ∧ x ≤ 255) (hz1 : l1 ≤ 20000) (a2 : Option Addr) (l2 c2 : Nat) (ys : List Int) (hl2 : ys.length = l2) (hc2 : l2 ≤ c2) (hb2 : ∀ x ∈ ys, 0 ≤ x ∧ x ≤ 255) (hz2 : l2 ≤ 20000) (w : World) (hs1 : SlE (Value.int .u8) w a1 xs) (hs2 : SlE (Value.int .u8) w a2 ys) :
    CA Tryd.prog 15 [.agg (keyA kb), .agg (nonA nb), .slice a1 l1 c1, .slice a2 l2 c2] w (RLe (Value.int .u8) 5 (fun l => l = sealL kb nb xs ys) w) := by
  have htl := tur_len kb nb xs
  have hml := macI_len kb nb ys (tur kb nb xs)
  have hz8 := nz_lt l1
  have hz9 := nz_lt l2
  have hr1 : (rep0 l1).length = nz l1 := by simp [rep0]
  have hr2 : (rep0 l2).length = nz l2 := by simp [rep0]
  have hli : ∀ n, (lil n).length = 8 := fun n => by simp [lil]
  have hli1 := hli l1
  have hli2 := hli l2
  have hli3 := hli (tur kb nb xs).length
  have hf1 : (ys ++ rep0 l2).length = l2 + nz l2 := by rw [List.length_append, hr2, hl2]
  have hf2 : ((tur kb nb xs) ++ rep0 (tur kb nb xs).length).length = (tur kb nb xs).length + nz (tur kb nb xs).length := by simp [rep0]
  have hz7 := nz_lt (tur kb nb xs).length
  refine enter (L := []) (X := []) Tryd.func15 rfl Tryd.ntmps15 rfl rfl (Has.nil _) ?_
  repeat (first | refine c_seq ?_ | (refine c_region (id := 0) ?_; refine se ?_; refine eb ?_; refine se ?_; refine eb ?_; refine sq qa ?_; refine l_nil ?_) | (refine c_region (id := 1) ?_; refine sq (by first | exact qlb | exact qlr) ?_; refine sq (by first | exact qlb | exact qlr) ?_; refine sq qm ?_; refine se ?_; refine e_callL (enc := (Value.int .u8)) (e := 5) rfl rfl (by kernel_rfl) rfl (fun w hC hm hL => by exact rxorI_c kb nb hk hn a1 l1 c1 xs hb1 (by omega) hc1 hl1 w (hs1.ch0 hC)) ?_; intro b1 cap1 z1 m1 hz1 ho1 hm1; subst hz1; refine sq qa ?_; refine l_nil ?_) | refine n_then ?_ | refine c_block ?_ | refine c_skip ?_ | refine n_block ?_ | refine c_exit ?_ | refine n_then_exit ?_ | refine n_block_eq ?_ | refine n_block_ne rfl ?_ | refine c_ret ?_ | refine n_then_ret ?_ | refine n_block_ret ?_ | refine c_cond_t rfl ?_ | refine c_cond_f rfl ?_ | refine r_succ ?_ )
  repeat (first | refine c_seq ?_ | (refine c_region (id := 2) ?_; refine sq (by first | exact qlb | exact qlr) ?_; refine sq (by first | exact qlb | exact qlr) ?_; refine se ?_; refine ecp rfl rfl (fun w hC hm hL => rblock_c kb nb hk hn 0 w) ?_; intro m' hm'; refine se ?_; refine ea ?_; refine se ?_; refine esa ?_; refine l_nil ?_) | (refine c_region (id := 3) ?_; refine se ?_; refine ea ?_; refine l_nil ?_) | (refine c_region (id := 4) ?_; refine sq qa ?_; refine l_nil ?_) | refine n_then ?_ | refine c_block ?_ | refine c_skip ?_ | refine n_block ?_ | refine c_exit ?_ | refine n_then_exit ?_ | refine n_block_eq ?_ | refine n_block_ne rfl ?_ | refine c_ret ?_ | refine n_then_ret ?_ | refine n_block_ret ?_ | refine c_cond_t rfl ?_ | refine c_cond_f rfl ?_ | refine r_succ ?_ )
  refine chg (L' := [.blk (m' + 1) (.cells (onceL kb nb 0).toArray 22 (0, 0)), .blk m' (.cells (outN (rnds 10 (s0 kb nb 0)) (s0 kb nb 0) 64) 50 (0, 0)), .sl b1 cap1 5 1 ((tur kb nb xs).map (Value.int .u8)), .blk (w.heap.size + 1) (.cells (nonA nb) 27 (0, 0)), .blk w.heap.size (.cells (keyA kb) 22 (0, 0))]) (by rfl) ?_
  refine c_loop (γ := Nat) (fun i => [(12, .int .i64 (i : Int)), (11, .pointer (some ⟨m' + 1, 0, none⟩)), (10, .pointer (some ⟨m', 0, none⟩)), (9, .slice b1 (tur kb nb xs).length cap1), (3, .slice a2 l2 c2)]) (fun _ => m' + 1 + 1) (fun i => [.blk (m' + 1) (.cells (onceL kb nb i).toArray 22 (0, 0)), .blk m' (.cells (outN (rnds 10 (s0 kb nb 0)) (s0 kb nb 0) 64) 50 (0, 0)), .sl b1 cap1 5 1 ((tur kb nb xs).map (Value.int .u8))]) (fun i => i ≤ 32) (fun i => 32 - i) 0 (by omega) ⟨rfl, rfl, rfl, rfl, rfl, trivial⟩ rfl (by (repeat (first | exact List.nil_sublist _ | exact List.Sublist.slnil | apply List.Sublist.cons_cons | exact List.Sublist.refl _ | apply List.Sublist.cons))) ?_
  intro i hi
  by_cases h8 : i < 32
  · have hz1 := blkN_nth kb nb 0 i (by omega)
    have hz2 : nth (outN (rnds 10 (s0 kb nb 0)) (s0 kb nb 0) 64).toList i = some (.int .u8 (keyO kb nb i)) := hz1
    clear hz1
    repeat (first | refine c_seq ?_ | (refine c_region (id := 5) ?_; refine sq qm ?_; refine sq (by first | exact dlsst | exact dlssf) ?_; refine l_nil ?_) | (refine c_region (id := 7) ?_; refine sq qm ?_; refine sq qm ?_; refine sq (by exact qia (o' := i) (ho := by omega)) ?_; refine sq ql ?_; refine sq (by exact qia (o' := i) (ho := by omega)) ?_; refine se ?_; refine es2 ?_ (hoff := by simp [onceL]; omega); refine l_nil ?_) | refine n_then ?_ | refine c_block ?_ | refine c_skip ?_ | refine n_block ?_ | refine c_exit ?_ | refine n_then_exit ?_ | refine n_block_eq ?_ | refine n_block_ne rfl ?_ | refine c_ret ?_ | refine n_then_ret ?_ | refine n_block_ret ?_ | refine c_cond_t rfl ?_ | refine c_cond_f rfl ?_ | refine r_succ ?_ )
    refine chg (L' := [.blk (m' + 1) (.cells (onceL kb nb (i + 1)).toArray 22 (0, 0)), .blk m' (.cells (outN (rnds 10 (s0 kb nb 0)) (s0 kb nb 0) 64) 50 (0, 0)), .sl b1 cap1 5 1 ((tur kb nb xs).map (Value.int .u8))]) (by rw [onceL_set kb nb i h8]) ?_
    repeat (first | refine c_seq ?_ | (refine c_region (id := 6) ?_; refine sq qm ?_; refine sq (by exact Qt.cast (v' := .int .i64 ((i + 1 : Nat) : Int)) (congrArg (Value.int .i64) (by omega)) (q_add64 rfl rfl ⟨by omega, by omega⟩ rfl)) ?_; refine sq qa ?_; refine l_nil ?_) | refine n_then ?_ | refine c_block ?_ | refine c_skip ?_ | refine n_block ?_ | refine c_exit ?_ | refine n_then_exit ?_ | refine n_block_eq ?_ | refine n_block_ne rfl ?_ | refine c_ret ?_ | refine n_then_ret ?_ | refine n_block_ret ?_ | refine c_cond_t rfl ?_ | refine c_cond_f rfl ?_ | refine r_succ ?_ )
    refine c_round (i + 1) (by omega) (by omega) ⟨rfl, rfl, rfl, rfl, rfl, trivial⟩ (by rfl) (by (repeat (first | exact List.nil_sublist _ | exact List.Sublist.slnil | apply List.Sublist.cons_cons | exact List.Sublist.refl _ | apply List.Sublist.cons)))
  · obtain rfl : i = 32 := by omega
    repeat (first | refine c_seq ?_ | (refine c_region (id := 5) ?_; refine sq qm ?_; refine sq (by first | exact dlsst | exact dlssf) ?_; refine l_nil ?_) | refine n_then ?_ | refine c_block ?_ | refine c_skip ?_ | refine n_block ?_ | refine c_exit ?_ | refine n_then_exit ?_ | refine n_block_eq ?_ | refine n_block_ne rfl ?_ | refine c_ret ?_ | refine n_then_ret ?_ | refine n_block_ret ?_ | refine c_cond_t rfl ?_ | refine c_cond_f rfl ?_ | refine r_succ ?_ )
    refine chg (L' := [.blk (m' + 1) (.cells (keyA (keyO kb nb)) 22 (0, 0)), .blk m' (.cells (outN (rnds 10 (s0 kb nb 0)) (s0 kb nb 0) 64) 50 (0, 0)), .sl b1 cap1 5 1 ((tur kb nb xs).map (Value.int .u8))]) (by rfl) ?_
    refine add_nil 5 1 ?_
    have hm0 : w.heap.size ≤ m' := by omega
    repeat (first | refine c_seq ?_ | (refine c_region (id := 8) ?_; refine sq qa ?_; refine l_nil ?_) | refine n_then ?_ | refine c_block ?_ | refine c_skip ?_ | refine n_block ?_ | refine c_exit ?_ | refine n_then_exit ?_ | refine n_block_eq ?_ | refine n_block_ne rfl ?_ | refine c_ret ?_ | refine n_then_ret ?_ | refine n_block_ret ?_ | refine c_cond_t rfl ?_ | refine c_cond_f rfl ?_ | refine r_succ ?_ )
    repeat (first | refine c_seq ?_ | (refine c_region (id := 9) ?_; refine sq qm ?_; refine sq qm ?_; refine se ?_; refine e_callL (enc := (Value.int .u8)) (e := 5) rfl rfl (by kernel_rfl) rfl (fun w hC hm hL => by exact fill_c a2 l2 c2 ys (by omega) (by omega) w (hs2.ch0 hC)) ?_; intro b2 cap2 z2 m2 hz2 ho2 hm2; subst hz2; refine se ?_; refine e_appE (Value.int .u8) ([] : List Int) (ys ++ rep0 l2) rfl rfl rfl (by (repeat (first | exact Rm.here | apply Rm.there))) (Vw.own (ho2.obv (by simp)) (by (repeat (first | exact List.Mem.head _ | apply List.Mem.tail)))) (by first | rfl | (simp only [List.length_append, List.length_nil]; done) | (simp only [List.length_append, List.length_nil]; omega)) rfl (OS.nil _ _) (allOne_u _) (by omega) (by omega) ?_; intro b3 cap3 m3 ho3 hm3; refine sq qa ?_; refine l_nil ?_) | refine n_then ?_ | refine c_block ?_ | refine c_skip ?_ | refine n_block ?_ | refine c_exit ?_ | refine n_then_exit ?_ | refine n_block_eq ?_ | refine n_block_ne rfl ?_ | refine c_ret ?_ | refine n_then_ret ?_ | refine n_block_ret ?_ | refine c_cond_t rfl ?_ | refine c_cond_f rfl ?_ | refine r_succ ?_ )
    repeat (first | refine c_seq ?_ | (refine c_region (id := 10) ?_; refine sq qm ?_; refine sq qm ?_; refine se ?_; refine e_callL (enc := (Value.int .u8)) (e := 5) rfl rfl (by kernel_rfl) rfl (fun w hC hm hL => by exact fill_c b1 (tur kb nb xs).length cap1 (tur kb nb xs) (by omega) (by omega) w (SlE.own hL (by (repeat (first | exact List.Mem.head _ | apply List.Mem.tail))) ho1)) ?_; intro b4 cap4 z4 m4 hz4 ho4 hm4; subst hz4; refine se ?_; refine e_appE (Value.int .u8) (([] : List Int) ++ (ys ++ rep0 l2)) ((tur kb nb xs) ++ rep0 (tur kb nb xs).length) rfl rfl rfl (by (repeat (first | exact Rm.here | apply Rm.there))) (Vw.own (ho4.obv (by simp)) (by (repeat (first | exact List.Mem.head _ | apply List.Mem.tail)))) (by first | rfl | (simp only [List.length_append, List.length_nil]; done) | (simp only [List.length_append, List.length_nil]; omega)) rfl ho3 (allOne_u _) (by omega) (by omega) ?_; intro b5 cap5 m5 ho5 hm5; refine sq qa ?_; refine l_nil ?_) | refine n_then ?_ | refine c_block ?_ | refine c_skip ?_ | refine n_block ?_ | refine c_exit ?_ | refine n_then_exit ?_ | refine n_block_eq ?_ | refine n_block_ne rfl ?_ | refine c_ret ?_ | refine n_then_ret ?_ | refine n_block_ret ?_ | refine c_cond_t rfl ?_ | refine c_cond_f rfl ?_ | refine r_succ ?_ )
    repeat (first | refine c_seq ?_ | (refine c_region (id := 11) ?_; refine sq qm ?_; refine sq qm ?_; refine sq qls ?_; refine se ?_; refine e_callL (enc := (Value.int .u8)) (e := 5) rfl rfl (by kernel_rfl) rfl (fun w hC hm hL => by exact little_c l2 (by omega) w) ?_; intro b6 cap6 z6 m6 hz6 ho6 hm6; subst hz6; refine se ?_; refine e_appE (Value.int .u8) ((([] : List Int) ++ (ys ++ rep0 l2)) ++ ((tur kb nb xs) ++ rep0 (tur kb nb xs).length)) (lil l2) rfl rfl rfl (by (repeat (first | exact Rm.here | apply Rm.there))) (Vw.own (ho6.obv (by simp)) (by (repeat (first | exact List.Mem.head _ | apply List.Mem.tail)))) (by first | rfl | (simp only [List.length_append, List.length_nil]; done) | (simp only [List.length_append, List.length_nil]; omega)) rfl ho5 (allOne_u _) (by omega) (by omega) ?_; intro b7 cap7 m7 ho7 hm7; refine sq qa ?_; refine l_nil ?_) | refine n_then ?_ | refine c_block ?_ | refine c_skip ?_ | refine n_block ?_ | refine c_exit ?_ | refine n_then_exit ?_ | refine n_block_eq ?_ | refine n_block_ne rfl ?_ | refine c_ret ?_ | refine n_then_ret ?_ | refine n_block_ret ?_ | refine c_cond_t rfl ?_ | refine c_cond_f rfl ?_ | refine r_succ ?_ )
    repeat (first | refine c_seq ?_ | (refine c_region (id := 12) ?_; refine sq qm ?_; refine sq qm ?_; refine sq qls ?_; refine se ?_; refine e_callL (enc := (Value.int .u8)) (e := 5) rfl rfl (by kernel_rfl) rfl (fun w hC hm hL => by exact little_c (tur kb nb xs).length (by omega) w) ?_; intro b8 cap8 z8 m8 hz8 ho8 hm8; subst hz8; refine se ?_; refine e_appE (Value.int .u8) (((([] : List Int) ++ (ys ++ rep0 l2)) ++ ((tur kb nb xs) ++ rep0 (tur kb nb xs).length)) ++ lil l2) (lil (tur kb nb xs).length) rfl rfl rfl (by (repeat (first | exact Rm.here | apply Rm.there))) (Vw.own (ho8.obv (by simp)) (by (repeat (first | exact List.Mem.head _ | apply List.Mem.tail)))) (by first | rfl | (simp only [List.length_append, List.length_nil]; done) | (simp only [List.length_append, List.length_nil]; omega)) rfl ho7 (allOne_u _) (by omega) (by omega) ?_; intro b9 cap9 m9 ho9 hm9; refine sq qa ?_; refine l_nil ?_) | refine n_then ?_ | refine c_block ?_ | refine c_skip ?_ | refine n_block ?_ | refine c_exit ?_ | refine n_then_exit ?_ | refine n_block_eq ?_ | refine n_block_ne rfl ?_ | refine c_ret ?_ | refine n_then_ret ?_ | refine n_block_ret ?_ | refine c_cond_t rfl ?_ | refine c_cond_f rfl ?_ | refine r_succ ?_ )
    have eX : (((([] : List Int) ++ (ys ++ rep0 l2)) ++ ((tur kb nb xs) ++ rep0 (tur kb nb xs).length)) ++ lil l2) ++ lil (tur kb nb xs).length = macT ys (tur kb nb xs) := by simp [macT, hl2]
    have eN : 0 + (ys ++ rep0 l2).length + ((tur kb nb xs) ++ rep0 (tur kb nb xs).length).length + (lil l2).length + (lil (tur kb nb xs).length).length = (macT ys (tur kb nb xs)).length := by rw [← eX]; simp only [List.length_append, List.length_nil]
    rw [eX]
    rw [eN] at ho9 ⊢
    repeat (first | refine c_seq ?_ | (refine c_region (id := 13) ?_; refine sq (by first | exact qlb | exact qlr) ?_; refine sq qm ?_; refine se ?_; refine ecp rfl rfl (fun w hC hm hL => by exact rmac_c kb nb ys (tur kb nb xs) hb2 (tur_bd kb nb xs hb1) (by omega) (by omega) b9 cap9 ho9.le w (SlE.own hL (by (repeat (first | exact List.Mem.head _ | apply List.Mem.tail))) ho9)) ?_; intro m' hm'; refine se ?_; refine ea ?_; refine se ?_; refine esa ?_; refine l_nil ?_) | refine n_then ?_ | refine c_block ?_ | refine c_skip ?_ | refine n_block ?_ | refine c_exit ?_ | refine n_then_exit ?_ | refine n_block_eq ?_ | refine n_block_ne rfl ?_ | refine c_ret ?_ | refine n_then_ret ?_ | refine n_block_ret ?_ | refine c_cond_t rfl ?_ | refine c_cond_f rfl ?_ | refine r_succ ?_ )
    repeat (first | refine c_seq ?_ | (refine c_region (id := 14) ?_; refine sq qm ?_; refine sq qsa ?_; refine se ?_; refine e_appE (Value.int .u8) (tur kb nb xs) (macI kb nb ys (tur kb nb xs)) rfl rfl rfl (by (repeat (first | exact Rm.here | apply Rm.there))) (.inr ⟨_, rfl, RdN.blk (o := 0) (by (repeat (first | exact List.Mem.head _ | apply List.Mem.tail))) (by rw [List.drop_zero]; exact List.take_length)⟩) rfl hml ho1 (allOne_u _) (by omega) (by omega) ?_; intro b10 cap10 m10 ho10 hm10; refine sq qa ?_; refine l_nil ?_) | refine n_then ?_ | refine c_block ?_ | refine c_skip ?_ | refine n_block ?_ | refine c_exit ?_ | refine n_then_exit ?_ | refine n_block_eq ?_ | refine n_block_ne rfl ?_ | refine c_ret ?_ | refine n_then_ret ?_ | refine n_block_ret ?_ | refine c_cond_t rfl ?_ | refine c_cond_f rfl ?_ | refine r_succ ?_ )
    have e1 : (tur kb nb xs).length + 16 = (sealL kb nb xs ys).length := by rw [sealL_len, htl]
    rw [e1] at ho10 ⊢
    (first | apply r_ret (b10, cap10, sealL kb nb xs ys) | apply r_end (b10, cap10, sealL kb nb xs ys)); exact rfl; exact rfl; exact (.tmp rfl .nil); exact rfl; exact (by exact (by (repeat (first | exact List.nil_sublist _ | exact List.Sublist.slnil | apply List.Sublist.cons_cons | exact List.Sublist.refl _ | apply List.Sublist.cons)))); exact (new_sl ho10.newc new_nil); exact ⟨by have h9 := ho10.ret; exact h9, rfl⟩
end Go.Proofs.YteopejjlhmghbaaDoor
