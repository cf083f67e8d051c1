/- SHA-256: end, Sum. -/
import Derived.Test.YtaeiknpiofnmeaaDoorHa5
namespace Go.Proofs.YtaeiknpiofnmeaaDoor
open Go Go.RowKit
set_option linter.unusedVariables false
set_option linter.unusedSimpArgs false
def tlN (n : Nat) : Nat := if n % 64 ≤ 55 then 64 - n % 64 else 128 - n % 64
def tlF (N V q : Nat) : Int := if q = 0 then 128 else if N ≤ q + 8 then ((V / 256 ^ (N - 1 - q) % 256 : Nat) : Int) else 0
/-- What stands behind a text of n bytes. -/
def padL (n : Nat) : List Int := (List.range (tlN n)).map (tlF (tlN n) (8 * n))
theorem tlN_bd (n : Nat) : 9 ≤ tlN n ∧ tlN n ≤ 72 ∧ (n + tlN n) % 64 = 0 := by unfold tlN; split <;> omega
theorem padL_len (n : Nat) : (padL n).length = tlN n := by simp [padL]
theorem tlF_bd (N V q : Nat) : 0 ≤ tlF N V q ∧ tlF N V q ≤ 255 := by
  unfold tlF
  split
  · omega
  · split
    · generalize V / 256 ^ (N - 1 - q) = z; omega
    · omega
theorem padL_bd (n : Nat) : ∀ x ∈ padL n, 0 ≤ x ∧ x ≤ 255 := by
  intro x hx
  obtain ⟨q, _, rfl⟩ := List.mem_map.1 hx
  exact tlF_bd _ _ _
def tlC (N V i : Nat) : List Value := (List.range 128).map fun q => Value.int .u8 (if q = 0 then 128 else if N ≤ q + i ∧ q < N then ((V / 256 ^ (N - 1 - q) % 256 : Nat) : Int) else 0)
theorem tlC_set (N V i : Nat) (hN : 9 ≤ N) (hN2 : N ≤ 72) (hi : i < 8) : (tlC N V i).set (N - 1 - i) (.int .u8 ((V / 256 ^ i % 256 : Nat) : Int)) = tlC N V (i + 1) := by
  apply List.ext_getElem
  · simp [tlC]
  · intro q h1 h2
    have hq : q < 128 := by simpa [tlC] using h2
    simp only [tlC, List.getElem_set, List.getElem_map, List.getElem_range]
    by_cases e : N - 1 - i = q
    · rw [if_pos e, if_neg (by omega), if_pos (by omega), show N - 1 - q = i by omega]
    · rw [if_neg e]
      by_cases h0 : q = 0
      · rw [if_pos h0, if_pos h0]
      · rw [if_neg h0, if_neg h0]
        by_cases h3 : N ≤ q + i ∧ q < N
        · rw [if_pos h3, if_pos (by omega)]
        · rw [if_neg h3, if_neg (by omega)]
theorem tlC_0 (N V : Nat) : setL (List.replicate 128 (Value.int .u8 0)) 0 (.int .u8 128) = tlC N V 0 := by
  rw [setL_eq]
  apply List.ext_getElem
  · simp [tlC]
  · intro q h1 h2
    simp only [tlC, List.getElem_set, List.getElem_map, List.getElem_range, List.getElem_replicate]
    by_cases h0 : q = 0
    · rw [if_pos h0.symm, if_pos h0]
    · rw [if_neg (fun e => h0 e.symm), if_neg h0, if_neg (by omega)]
theorem tl_pad (N V : Nat) (hN : N ≤ 128) : ((tlC N V 8).toArray.toList.drop 0).take N = ((List.range N).map (tlF N V)).map (Value.int .u8) := by
  show ((tlC N V 8).drop 0).take N = _
  rw [List.drop_zero]
  apply List.ext_getElem
  · simp [tlC]; omega
  · intro q h1 h2
    have hq : q < N := by simpa using h2
    simp only [tlC, List.getElem_take, List.getElem_map, List.getElem_range, tlF]
    by_cases h0 : q = 0
    · rw [if_pos h0, if_pos h0]
    · rw [if_neg h0, if_neg h0]
      by_cases h3 : N ≤ q + 8
      · rw [if_pos ⟨h3, hq⟩, if_pos h3]
      · rw [if_neg (by omega), if_neg h3]
def wq (s : H8) : Nat → Nat
  | 0 => s.a
  | 1 => s.b
  | 2 => s.c
  | 3 => s.d
  | 4 => s.e
  | 5 => s.f
  | 6 => s.g
  | 7 => s.h
  | _ => 0
theorem wq_nth (s : H8) (i : Nat) (hi : i < 8) : (w8 s).toArray[((i : Int)).toNat * 1]? = some (.int .u32 ((wq s i : Nat) : Int)) := by
  rw [Int.toNat_natCast, Nat.mul_one]
  match i, hi with
  | 0, _ => rfl
  | 1, _ => rfl
  | 2, _ => rfl
  | 3, _ => rfl
  | 4, _ => rfl
  | 5, _ => rfl
  | 6, _ => rfl
  | 7, _ => rfl
def bq (s : H8) (q : Nat) : Nat := wq s (q / 4) / 2 ^ (24 - 8 * (q % 4)) % 256
theorem bq_eq (s : H8) (i r : Nat) (hr : r < 4) : bq s (4 * i + r) = wq s i / 2 ^ (24 - 8 * r) % 256 := by
  unfold bq
  rw [show (4 * i + r) / 4 = i by omega, show (4 * i + r) % 4 = r by omega]
def outK (s : H8) (k : Nat) : List Value := (List.range 32).map fun q => Value.int .u8 (if q < k then ((bq s q : Nat) : Int) else 0)
theorem outK_0 (s : H8) : outK s 0 = List.replicate 32 (Value.int .u8 0) := rfl
theorem outK_set (s : H8) (k : Nat) (hk : k < 32) {v : Nat} (hv : bq s k = v) : (outK s k).set k (.int .u8 (v : Int)) = outK s (k + 1) := by
  subst hv
  apply List.ext_getElem
  · simp [outK]
  · intro q h1 h2
    simp only [outK, List.getElem_set, List.getElem_map, List.getElem_range]
    by_cases e : k = q
    · subst e; rw [if_pos rfl, if_pos (by omega)]
    · rw [if_neg e]
      by_cases h3 : q < k
      · rw [if_pos h3, if_pos (by omega)]
      · rw [if_neg h3, if_neg (by omega)]
def sumL (s : H8) : List Int := (List.range 32).map fun q => ((bq s q : Nat) : Int)
theorem outK_32 (s : H8) : outK s 32 = (sumL s).map (Value.int .u8) := by
  unfold outK sumL
  rw [List.map_map]
  apply List.map_congr_left
  intro q hq
  rw [if_pos (List.mem_range.1 hq)]
  rfl
theorem sumL_len (s : H8) : (sumL s).length = 32 := by simp [sumL]
def shaX (Kt : List Nat) (xs : List Int) : List Int := sumL (HS (kF Kt) (xs ++ padL xs.length) ((xs.length + tlN xs.length) / 64))
theorem shaX_len (Kt : List Nat) (xs : List Int) : (shaX Kt xs).length = 32 := sumL_len _
theorem sumL_bd (s : H8) : ∀ x ∈ sumL s, 0 ≤ x ∧ x ≤ 255 := by
  intro x hx
  obtain ⟨q, _, rfl⟩ := List.mem_map.1 hx
  have : bq s q < 256 := Nat.mod_lt _ (by decide)
  omega
theorem shaX_bd (Kt : List Nat) (xs : List Int) : ∀ x ∈ shaX Kt xs, 0 ≤ x ∧ x ≤ 255 := sumL_bd _
set_option maxRecDepth 100000 in
set_option maxHeartbeats 4000000 in
theorem end_c (Kt : List Nat) (g : Nat) (hgr : g ≠ 1) (X : List Int) (hX : ∀ x ∈ X, 0 ≤ x ∧ x ≤ 255) (n : Nat) (hbig : X.length ≤ 1000000000) (hXl : X.length = n + tlN n) (hXp0 : (X.drop n).take (tlN n) = padL n) (H : List Value) (hH : HD X n H) (w : World) (hKT : KT w 1 Kt) (hgw : g < w.heap.size) (hL0 : Has [.blk g (DX Kt X (n) (H))] w) :
    CA Tryd.prog 26 [.pointer (some ⟨g, 0, none⟩)] w (Ret (fun _ : List Value => .agg ((sumL (HS (kF Kt) X ((n + tlN n) / 64))).map (Value.int .u8)).toArray) [g] (fun H' => [.blk g (DX Kt X (n + tlN n) (H'))]) (fun _ => True) w) := by
  have hgx : 1 ∉ [g] := by simpa using fun e => hgr e.symm
  have hHl := HN.len hH
  have hL : Has [.blk g (.cells (dgL (HS (kF Kt) X ((n) / 64)) (H ++ [.int .i64 (((n) % 64 : Nat) : Int), .int .u64 ((n : Nat) : Int)])).toArray 55 (0, 0))] w := hL0
  have z72 := dg_72 (HS (kF Kt) X (n / 64)) (a := .int .i64 ((n % 64 : Nat) : Int)) (b := .int .u64 (n : Int)) hHl
  have z73 := dg_73 (HS (kF Kt) X (n / 64)) (a := .int .i64 ((n % 64 : Nat) : Int)) (b := .int .u64 (n : Int)) hHl
  obtain ⟨hN9, hN72, hNm⟩ := tlN_bd n
  have hNd : tlN n = if n % 64 ≤ 55 then 64 - n % 64 else 128 - n % 64 := rfl
  unfold padL at hXp0
  obtain ⟨N, hN⟩ : ∃ N, N = tlN n := ⟨_, rfl⟩
  obtain ⟨V, hV⟩ : ∃ V, V = 8 * n := ⟨_, rfl⟩
  rw [← hN] at hN9 hN72 hNm hNd hXl hXp0 ⊢
  rw [← hV] at hXp0
  have hN128 : N ≤ 128 := by omega
  have hXp : (X.drop n).take N = (List.range N).map (tlF N V) := hXp0
  refine enter (L := _) (X := [g]) Tryd.func26 rfl Tryd.ntmps26 rfl rfl hL ?_
  refine c_seq ?_
  refine c_region (id := 0) ?_
  refine st_e ?_; refine e_alloc rfl ?_
  refine l_nil ?_
  refine n_then ?_
  refine c_seq ?_
  refine c_region (id := 1) ?_
  refine st_q (by exact q_move rfl) rfl ?_
  refine st_q (by exact q_nilCheck rfl) rfl ?_
  refine st_q (by exact q_fieldAddrP rfl (by rfl) (by rfl) (by first | (simp only [Nat.zero_add, Nat.add_zero, Nat.mul_one, Nat.one_mul, Int.toNat_natCast, Int.reduceToNat, Nat.reduceMul, Nat.reduceAdd, Nat.reduceSub, Int.reduceAdd, Int.reduceSub, Int.reduceMul, Nat.sub_zero, Int.toNat_zero, Int.zero_add, Int.add_zero, Int.sub_zero, Int.mul_one, Int.one_mul]; try exact rfl) | exact rfl)) rfl ?_
  refine st_q (by exact q_load rfl (by (first | exact Rd.blkn (by (repeat (first | exact List.Mem.head _ | apply List.Mem.tail))) (by first | rfl | assumption) | exact Rd.sln (by (repeat (first | exact List.Mem.head _ | apply List.Mem.tail))) (by first | rfl | assumption) | exact Rd.oldn (by assumption) (by first | rfl | assumption) (by simp) | exact Rd.old0 (by assumption) (by simp)))) rfl ?_
  refine st_q (by exact Qt.cast (v' := .int .u64 ((V : Nat) : Int)) (congrArg (Value.int .u64) (by rw [hV]; omega)) (q_mulU rfl rfl)) rfl ?_
  refine st_q (by exact q_assign rfl) rfl ?_
  refine l_nil ?_
  refine n_then ?_
  refine c_seq ?_
  refine c_region (id := 2) ?_
  refine st_e ?_; refine e_alloc rfl ?_
  refine l_nil ?_
  refine n_then ?_
  refine c_seq ?_
  refine c_region (id := 3) ?_
  refine st_q (by exact q_indexAddr_arr rfl rfl (by omega) (by omega) (by first | (simp only [Nat.zero_add, Nat.add_zero, Nat.mul_one, Nat.one_mul, Int.toNat_natCast, Int.reduceToNat, Nat.reduceMul, Nat.reduceAdd, Nat.reduceSub, Int.reduceAdd, Int.reduceSub, Int.reduceMul, Nat.sub_zero, Int.toNat_zero, Int.zero_add, Int.add_zero, Int.sub_zero, Int.mul_one, Int.one_mul]; try exact rfl) | exact rfl)) rfl ?_
  refine st_e0 ?_; refine e_store1l (l' := tlC N V 0) rfl rfl rfl (by (repeat (first | exact List.Mem.head _ | apply List.Mem.tail))) (by exact tlC_0 N V) (by (repeat (first | exact Pl.here | apply Pl.there))) (by rfl) (by first | (left; simp; done) | (right; omega)) ?_
  refine l_nil ?_
  refine n_then ?_
  refine c_seq ?_
  refine c_region (id := 4) ?_
  refine st_q (by exact q_move rfl) rfl ?_
  refine st_q (by exact q_nilCheck rfl) rfl ?_
  refine st_q (by exact q_fieldAddrP rfl (by rfl) (by rfl) (by first | (simp only [Nat.zero_add, Nat.add_zero, Nat.mul_one, Nat.one_mul, Int.toNat_natCast, Int.reduceToNat, Nat.reduceMul, Nat.reduceAdd, Nat.reduceSub, Int.reduceAdd, Int.reduceSub, Int.reduceMul, Nat.sub_zero, Int.toNat_zero, Int.zero_add, Int.add_zero, Int.sub_zero, Int.mul_one, Int.one_mul]; try exact rfl) | exact rfl)) rfl ?_
  refine st_q (by exact q_load rfl (by (first | exact Rd.blkn (by (repeat (first | exact List.Mem.head _ | apply List.Mem.tail))) (by first | rfl | assumption) | exact Rd.sln (by (repeat (first | exact List.Mem.head _ | apply List.Mem.tail))) (by first | rfl | assumption) | exact Rd.oldn (by assumption) (by first | rfl | assumption) (by simp) | exact Rd.old0 (by assumption) (by simp)))) rfl ?_
  refine st_q (by exact Qt.cast (v' := .int .i64 ((64 - n % 64 : Nat) : Int)) (congrArg (Value.int .i64) (by omega)) (q_sub64 rfl rfl ⟨by omega, by omega⟩ rfl)) rfl ?_
  refine st_q (by exact q_assign rfl) rfl ?_
  refine l_nil ?_
  refine n_then ?_
  refine c_join (γ := Unit) (fun _ => [(5, .int .i64 N), (0, .pointer (some ⟨g, 0, none⟩)), (3, .int .u64 V), (4, .pointer (some ⟨w.heap.size + 1, 0, none⟩)), (2, .pointer (some ⟨w.heap.size, 0, none⟩))]) (fun _ => w.heap.size + 1 + 1) (fun _ => [.blk (w.heap.size + 1) (.cells (tlC N V 0).toArray 61 (0, 0)), .blk w.heap.size (.cells (List.replicate 32 (Value.int .u8 0)).toArray 26 (0, 0)), .blk g (.cells (dgL (HS (kF Kt) X ((n) / 64)) (H ++ [.int .i64 (((n) % 64 : Nat) : Int), .int .u64 ((n : Nat) : Int)])).toArray 55 (0, 0))]) (fun _ => True) ?_ ?_
  · by_cases h55 : n % 64 ≤ 55
    · rw [if_pos h55] at hNd
      repeat (first | refine c_seq ?_ | (refine c_region (id := 5) ?_; refine st_q (by exact q_move rfl) rfl ?_; refine st_q (by (first | exact Qt.cast (congrArg Value.bool (decide_eq_true (by omega))) (q_lss rfl rfl) | exact Qt.cast (congrArg Value.bool (decide_eq_false (by omega))) (q_lss rfl rfl))) rfl ?_; refine l_nil ?_) | (refine c_region (id := 6) ?_; refine st_q (by exact q_move rfl) rfl ?_; refine st_q (by exact Qt.cast (v' := .int .i64 ((128 - n % 64 : Nat) : Int)) (congrArg (Value.int .i64) (by omega)) (q_add64 rfl rfl ⟨by omega, by omega⟩ rfl)) rfl ?_; refine st_q (by exact q_assign rfl) rfl ?_; refine l_nil ?_) | refine n_then ?_ | refine c_block ?_ | refine c_skip ?_ | refine n_block ?_ | refine c_exit ?_ | refine n_then_exit ?_ | refine n_block_eq ?_ | refine n_block_ne rfl ?_ | refine c_ret ?_ | refine n_then_ret ?_ | refine n_block_ret ?_ | refine c_cond_t rfl ?_ | refine c_cond_f rfl ?_ | refine r_succ ?_ )
      refine c_joined () trivial (by exact ⟨by rw [hNd]; rfl, rfl, rfl, rfl, rfl, trivial⟩) (by rfl) (by (repeat (first | exact List.Sublist.slnil | apply List.Sublist.cons_cons | apply List.Sublist.cons)))
    · rw [if_neg h55] at hNd
      repeat (first | refine c_seq ?_ | (refine c_region (id := 5) ?_; refine st_q (by exact q_move rfl) rfl ?_; refine st_q (by (first | exact Qt.cast (congrArg Value.bool (decide_eq_true (by omega))) (q_lss rfl rfl) | exact Qt.cast (congrArg Value.bool (decide_eq_false (by omega))) (q_lss rfl rfl))) rfl ?_; refine l_nil ?_) | (refine c_region (id := 6) ?_; refine st_q (by exact q_move rfl) rfl ?_; refine st_q (by exact Qt.cast (v' := .int .i64 ((128 - n % 64 : Nat) : Int)) (congrArg (Value.int .i64) (by omega)) (q_add64 rfl rfl ⟨by omega, by omega⟩ rfl)) rfl ?_; refine st_q (by exact q_assign rfl) rfl ?_; refine l_nil ?_) | refine n_then ?_ | refine c_block ?_ | refine c_skip ?_ | refine n_block ?_ | refine c_exit ?_ | refine n_then_exit ?_ | refine n_block_eq ?_ | refine n_block_ne rfl ?_ | refine c_ret ?_ | refine n_then_ret ?_ | refine n_block_ret ?_ | refine c_cond_t rfl ?_ | refine c_cond_f rfl ?_ | refine r_succ ?_ )
      refine c_joined () trivial (by exact ⟨by rw [hNd]; rfl, rfl, rfl, rfl, rfl, trivial⟩) (by rfl) (by (repeat (first | exact List.Sublist.slnil | apply List.Sublist.cons_cons | apply List.Sublist.cons)))
  · intro _ _
    repeat (first | refine c_seq ?_ | (refine c_region (id := 7) ?_; refine st_q (by exact q_move rfl) rfl ?_; refine l_nil ?_) | refine n_then ?_ | refine c_block ?_ | refine c_skip ?_ | refine n_block ?_ | refine c_exit ?_ | refine n_then_exit ?_ | refine n_block_eq ?_ | refine n_block_ne rfl ?_ | refine c_ret ?_ | refine n_then_ret ?_ | refine n_block_ret ?_ | refine c_cond_t rfl ?_ | refine c_cond_f rfl ?_ | refine r_succ ?_ )
    refine c_loop (γ := Nat) (fun i => [(25, .int .i64 i), (5, .int .i64 N), (0, .pointer (some ⟨g, 0, none⟩)), (3, .int .u64 V), (4, .pointer (some ⟨w.heap.size + 1, 0, none⟩)), (2, .pointer (some ⟨w.heap.size, 0, none⟩))]) (fun _ => w.heap.size + 1 + 1) (fun i => [.blk (w.heap.size + 1) (.cells (tlC N V i).toArray 61 (0, 0)), .blk w.heap.size (.cells (List.replicate 32 (Value.int .u8 0)).toArray 26 (0, 0)), .blk g (.cells (dgL (HS (kF Kt) X ((n) / 64)) (H ++ [.int .i64 (((n) % 64 : Nat) : Int), .int .u64 ((n : Nat) : Int)])).toArray 55 (0, 0))]) (fun i => i ≤ 8) (fun i => 8 - i) 0 (by omega) ⟨rfl, rfl, rfl, rfl, rfl, rfl, trivial⟩ rfl (by (repeat (first | exact List.Sublist.slnil | apply List.Sublist.cons_cons | apply List.Sublist.cons))) ?_
    intro i hi
    repeat (first | refine c_seq ?_ | (refine c_region (id := 8) ?_; refine st_q (by exact q_lss rfl rfl) rfl ?_; refine l_nil ?_) | refine n_then ?_ | refine c_block ?_ | refine c_skip ?_ | refine n_block ?_ | refine c_exit ?_ | refine n_then_exit ?_ | refine n_block_eq ?_ | refine n_block_ne rfl ?_ | refine c_ret ?_ | refine n_then_ret ?_ | refine n_block_ret ?_ | refine c_cond_t rfl ?_ | refine c_cond_f rfl ?_ | refine r_succ ?_ )
    refine c_cond_dec rfl (fun hlt => ?_) (fun hlt => ?_)
    · repeat (first | refine c_seq ?_ | (refine c_region (id := 9) ?_; refine st_q (by exact q_move rfl) rfl ?_; refine st_q (by exact q_assign rfl) rfl ?_; refine l_nil ?_) | (refine c_region (id := 10) ?_; refine st_q (by exact q_move rfl) rfl ?_; refine st_q (by exact Qt.cast (v' := .int .i64 ((N - 1 : Nat) : Int)) (congrArg (Value.int .i64) (by omega)) (q_sub64 rfl rfl ⟨by omega, by omega⟩ rfl)) rfl ?_; refine st_q (by exact q_move rfl) rfl ?_; refine st_q (by exact Qt.cast (v' := .int .i64 ((N - 1 - i : Nat) : Int)) (congrArg (Value.int .i64) (by omega)) (q_sub64 rfl rfl ⟨by omega, by omega⟩ rfl)) rfl ?_; refine st_q (by exact q_move rfl) rfl ?_; refine st_q (by exact q_move rfl) rfl ?_; refine st_q (by exact Qt.cast (v' := .int .i64 ((8 * i : Nat) : Int)) (congrArg (Value.int .i64) (by omega)) (q_mul64 rfl rfl ⟨by omega, by omega⟩ rfl)) rfl ?_; refine st_q (by exact Qt.cast (v' := .int .u64 ((V / 256 ^ i : Nat) : Int)) (congrArg (Value.int .u64) (by rw [shr_nat, show 2 ^ (8 * i) = 256 ^ i by rw [Nat.pow_mul]])) (q_shr rfl rfl (by omega) (by show Int.toNat _ ≤ 64; omega))) rfl ?_; refine st_q (by exact Qt.cast (v' := .int .u8 ((V / 256 ^ i % 256 : Nat) : Int)) (congrArg (Value.int .u8) (by generalize V / 256 ^ i = z; omega)) (q_conv8 rfl)) rfl ?_; refine st_q (by exact q_indexAddr_arr (o' := N - 1 - i) rfl rfl (by omega) (by omega) (by omega)) rfl ?_; refine st_e0 ?_; refine e_store1l (l := tlC N V i) (l' := tlC N V (i + 1)) rfl rfl rfl (by (repeat (first | exact List.Mem.head _ | apply List.Mem.tail))) (by rw [setL_eq]; exact tlC_set N V i (by omega) (by omega) (by omega)) (by (repeat (first | exact Pl.here | apply Pl.there))) (by simp [tlC]; omega) (by first | (left; simp; done) | (right; omega)) ?_; refine l_nil ?_) | (refine c_region (id := 11) ?_; refine st_q (by exact q_add64 rfl rfl ⟨by omega, by omega⟩ (by first | (simp only [Nat.zero_add, Nat.add_zero, Nat.mul_one, Nat.one_mul, Int.toNat_natCast, Int.reduceToNat, Nat.reduceMul, Nat.reduceAdd, Nat.reduceSub, Int.reduceAdd, Int.reduceSub, Int.reduceMul, Nat.sub_zero, Int.toNat_zero, Int.zero_add, Int.add_zero, Int.sub_zero, Int.mul_one, Int.one_mul]; try exact rfl) | exact rfl)) rfl ?_; refine st_q (by exact q_move rfl) rfl ?_; refine l_nil ?_) | refine n_then ?_ | refine c_block ?_ | refine c_skip ?_ | refine n_block ?_ | refine c_exit ?_ | refine n_then_exit ?_ | refine n_block_eq ?_ | refine n_block_ne rfl ?_ | refine c_ret ?_ | refine n_then_ret ?_ | refine n_block_ret ?_ | refine c_cond_t rfl ?_ | refine c_cond_f rfl ?_ | refine r_succ ?_ )
      refine c_round (i + 1) (by omega) (by omega) ⟨rfl, rfl, rfl, rfl, rfl, rfl, trivial⟩ (by rfl) (by (repeat (first | exact List.Sublist.slnil | apply List.Sublist.cons_cons | apply List.Sublist.cons)))
    · obtain rfl : i = 8 := by omega
      repeat (first | refine c_seq ?_ | (refine c_region (id := 12) ?_; refine st_q (by exact q_move rfl) rfl ?_; refine st_q (by exact q_move rfl) rfl ?_; refine st_q (by exact q_slice_arr (o' := 0) (len' := N) (cap' := 128) rfl rfl rfl (by omega) (by omega) (by omega) (by simp) (by simp) (by simp)) rfl ?_; refine st_e ?_; refine e_call (Y := [g]) (L' := [.blk (w.heap.size + 1) (.cells (tlC N V 8).toArray 61 (0, 0)), .blk w.heap.size (.cells (List.replicate 32 (Value.int .u8 0)).toArray 26 (0, 0))]) rfl rfl (by kernel_rfl) rfl (fun w hC hm hL => by exact put_d Kt g hgr X hX n (some ⟨_, 0, none⟩) N 128 (by omega) (by omega) hbig H hH w (hKT.ch hC hgx) (by rw [hXp]; exact SlE.blk (enc := Value.int .u8) hL (by (repeat (first | exact List.Mem.head _ | apply List.Mem.tail))) 0 N (tl_pad N V hN128)) (fun g2 o e _ => by simp only [Option.some.injEq, Addr.mk.injEq] at e; omega) (hL.sub (by (repeat (first | exact List.Sublist.slnil | apply List.Sublist.cons_cons | apply List.Sublist.cons))))) (by simp) (by exact (by (repeat (first | exact List.Sublist.slnil | apply List.Sublist.cons_cons | apply List.Sublist.cons)))) (by simp [feet, Chunk.foot]; omega) ?_; intro H2 m9 hH2 hn2 hm9; refine l_nil ?_) | refine n_then ?_ | refine c_block ?_ | refine c_skip ?_ | refine n_block ?_ | refine c_exit ?_ | refine n_then_exit ?_ | refine n_block_eq ?_ | refine n_block_ne rfl ?_ | refine c_ret ?_ | refine n_then_ret ?_ | refine n_block_ret ?_ | refine c_cond_t rfl ?_ | refine c_cond_f rfl ?_ | refine r_succ ?_ )
      refine chg (L' := [.blk g (.cells (dgL (HS (kF Kt) X ((n + N) / 64)) (H2 ++ [.int .i64 (((n + N) % 64 : Nat) : Int), .int .u64 ((n + N : Nat) : Int)])).toArray 55 (0, 0)), .blk (w.heap.size + 1) (.cells (tlC N V 8).toArray 61 (0, 0)), .blk w.heap.size (.cells (List.replicate 32 (Value.int .u8 0)).toArray 26 (0, 0))]) (by rfl) ?_
      obtain ⟨s, hs⟩ : ∃ s, s = HS (kF Kt) X ((n + N) / 64) := ⟨_, rfl⟩
      rw [← hs]
      repeat (first | refine c_seq ?_ | (refine c_region (id := 13) ?_; refine st_e ?_; refine e_alloc rfl ?_; refine l_nil ?_) | (refine c_region (id := 14) ?_; refine st_q (by exact q_move rfl) rfl ?_; refine st_q (by exact q_nilCheck rfl) rfl ?_; refine st_q (by exact q_fieldAddrP rfl (by rfl) (by rfl) (by first | (simp only [Nat.zero_add, Nat.add_zero, Nat.mul_one, Nat.one_mul, Int.toNat_natCast, Int.reduceToNat, Nat.reduceMul, Nat.reduceAdd, Nat.reduceSub, Int.reduceAdd, Int.reduceSub, Int.reduceMul, Nat.sub_zero, Int.toNat_zero, Int.zero_add, Int.add_zero, Int.sub_zero, Int.mul_one, Int.one_mul]; try exact rfl) | exact rfl)) rfl ?_; refine st_q (by exact q_load_row (vs := w8 s) rfl (RdN.blk (by (repeat (first | exact List.Mem.head _ | apply List.Mem.tail))) (by rfl)) (by rfl)) rfl ?_; refine st_q (by exact q_move rfl) rfl ?_; refine l_nil ?_) | refine n_then ?_ | refine c_block ?_ | refine c_skip ?_ | refine n_block ?_ | refine c_exit ?_ | refine n_then_exit ?_ | refine n_block_eq ?_ | refine n_block_ne rfl ?_ | refine c_ret ?_ | refine n_then_ret ?_ | refine n_block_ret ?_ | refine c_cond_t rfl ?_ | refine c_cond_f rfl ?_ | refine r_succ ?_ )
      refine chg (L' := [.blk m9 (.cells (outK s (0)).toArray 26 (0, 0)), .blk g (.cells (dgL s (H2 ++ [.int .i64 (((n + N) % 64 : Nat) : Int), .int .u64 ((n + N : Nat) : Int)])).toArray 55 (0, 0)), .blk (w.heap.size + 1) (.cells (tlC N V 8).toArray 61 (0, 0)), .blk w.heap.size (.cells (List.replicate 32 (Value.int .u8 0)).toArray 26 (0, 0))]) (by rw [outK_0]) ?_
      refine c_loop (γ := Nat) (fun i => [(47, .int .i64 i), (46, .agg (w8 s).toArray), (7, .pointer (some ⟨m9, 0, none⟩)), (2, .pointer (some ⟨w.heap.size, 0, none⟩))]) (fun _ => m9 + 1) (fun i => [.blk m9 (.cells (outK s ((4 * i))).toArray 26 (0, 0)), .blk g (.cells (dgL s (H2 ++ [.int .i64 (((n + N) % 64 : Nat) : Int), .int .u64 ((n + N : Nat) : Int)])).toArray 55 (0, 0)), .blk w.heap.size (.cells (List.replicate 32 (Value.int .u8 0)).toArray 26 (0, 0))]) (fun i => i ≤ 8) (fun i => 8 - i) 0 (by omega) ⟨rfl, rfl, rfl, rfl, trivial⟩ rfl (by (repeat (first | exact List.Sublist.slnil | apply List.Sublist.cons_cons | apply List.Sublist.cons))) ?_
      intro i hi
      repeat (first | refine c_seq ?_ | (refine c_region (id := 15) ?_; refine st_q (by exact q_lss rfl rfl) rfl ?_; refine l_nil ?_) | refine n_then ?_ | refine c_block ?_ | refine c_skip ?_ | refine n_block ?_ | refine c_exit ?_ | refine n_then_exit ?_ | refine n_block_eq ?_ | refine n_block_ne rfl ?_ | refine c_ret ?_ | refine n_then_ret ?_ | refine n_block_ret ?_ | refine c_cond_t rfl ?_ | refine c_cond_f rfl ?_ | refine r_succ ?_ )
      refine c_cond_dec rfl (fun hlt => ?_) (fun hlt => ?_)
      · have hwi := wq_nth s i (by omega)
        obtain ⟨x, hx⟩ : ∃ x, x = wq s i := ⟨_, rfl⟩
        have b0 := bq_eq s i 0 (by omega)
        have b1 := bq_eq s i 1 (by omega)
        have b2 := bq_eq s i 2 (by omega)
        have b3 := bq_eq s i 3 (by omega)
        rw [← hx] at hwi b0 b1 b2 b3
        have b0 : bq s (4 * i) = x / 16777216 % 256 := b0
        have b1 : bq s (4 * i + 1) = x / 65536 % 256 := b1
        have b2 : bq s (4 * i + 2) = x / 256 % 256 := b2
        have b3 : bq s (4 * i + 3) = x / 1 % 256 := b3
        repeat (first | refine c_seq ?_ | (refine c_region (id := 16) ?_; refine st_q (by exact q_move rfl) rfl ?_; refine st_q (by exact q_index rfl rfl (by omega) (by omega) hwi) rfl ?_; refine st_q (by exact q_assign rfl) rfl ?_; refine st_q (by exact q_assign rfl) rfl ?_; refine l_nil ?_) | (refine c_region (id := 17) ?_; refine st_q (by exact q_move rfl) rfl ?_; refine st_q (by exact Qt.cast (v' := .int .i64 ((4 * i : Nat) : Int)) (congrArg (Value.int .i64) (by omega)) (q_mul64 rfl rfl ⟨by omega, by omega⟩ rfl)) rfl ?_; refine st_q (by exact q_move rfl) rfl ?_; refine st_q (by exact Qt.cast (v' := .int .u32 ((x / 16777216 : Nat) : Int)) (congrArg (Value.int .u32) (by show ((x : Nat) : Int) / 16777216 = _; omega)) (q_shr rfl rfl (by omega) (by show _ ≤ _; decide))) rfl ?_; refine st_q (by exact Qt.cast (v' := .int .u8 ((x / 16777216 % 256 : Nat) : Int)) (congrArg (Value.int .u8) (by omega)) (q_conv8 rfl)) rfl ?_; refine st_q (by exact q_indexAddr_arr (o' := 4 * i) rfl rfl (by omega) (by omega) (by omega)) rfl ?_; refine st_e0 ?_; refine e_store1l (l := outK s (4 * i)) (l' := outK s (4 * i + 1)) rfl rfl rfl (by (repeat (first | exact List.Mem.head _ | apply List.Mem.tail))) (by rw [setL_eq]; exact outK_set s (4 * i) (by omega) b0) (by (repeat (first | exact Pl.here | apply Pl.there))) (by simp [outK]; omega) (by first | (left; simp; done) | (right; omega)) ?_; refine l_nil ?_) | (refine c_region (id := 18) ?_; refine st_q (by exact q_move rfl) rfl ?_; refine st_q (by exact Qt.cast (v' := .int .i64 ((4 * i : Nat) : Int)) (congrArg (Value.int .i64) (by omega)) (q_mul64 rfl rfl ⟨by omega, by omega⟩ rfl)) rfl ?_; refine st_q (by exact Qt.cast (v' := .int .i64 ((4 * i + 1 : Nat) : Int)) (congrArg (Value.int .i64) (by omega)) (q_add64 rfl rfl ⟨by omega, by omega⟩ rfl)) rfl ?_; refine st_q (by exact q_move rfl) rfl ?_; refine st_q (by exact Qt.cast (v' := .int .u32 ((x / 65536 : Nat) : Int)) (congrArg (Value.int .u32) (by show ((x : Nat) : Int) / 65536 = _; omega)) (q_shr rfl rfl (by omega) (by show _ ≤ _; decide))) rfl ?_; refine st_q (by exact Qt.cast (v' := .int .u8 ((x / 65536 % 256 : Nat) : Int)) (congrArg (Value.int .u8) (by omega)) (q_conv8 rfl)) rfl ?_; refine st_q (by exact q_indexAddr_arr (o' := 4 * i + 1) rfl rfl (by omega) (by omega) (by omega)) rfl ?_; refine st_e0 ?_; refine e_store1l (l := outK s (4 * i + 1)) (l' := outK s (4 * i + 1 + 1)) rfl rfl rfl (by (repeat (first | exact List.Mem.head _ | apply List.Mem.tail))) (by rw [setL_eq]; exact outK_set s (4 * i + 1) (by omega) b1) (by (repeat (first | exact Pl.here | apply Pl.there))) (by simp [outK]; omega) (by first | (left; simp; done) | (right; omega)) ?_; refine l_nil ?_) | (refine c_region (id := 19) ?_; refine st_q (by exact q_move rfl) rfl ?_; refine st_q (by exact Qt.cast (v' := .int .i64 ((4 * i : Nat) : Int)) (congrArg (Value.int .i64) (by omega)) (q_mul64 rfl rfl ⟨by omega, by omega⟩ rfl)) rfl ?_; refine st_q (by exact Qt.cast (v' := .int .i64 ((4 * i + 2 : Nat) : Int)) (congrArg (Value.int .i64) (by omega)) (q_add64 rfl rfl ⟨by omega, by omega⟩ rfl)) rfl ?_; refine st_q (by exact q_move rfl) rfl ?_; refine st_q (by exact Qt.cast (v' := .int .u32 ((x / 256 : Nat) : Int)) (congrArg (Value.int .u32) (by show ((x : Nat) : Int) / 256 = _; omega)) (q_shr rfl rfl (by omega) (by show _ ≤ _; decide))) rfl ?_; refine st_q (by exact Qt.cast (v' := .int .u8 ((x / 256 % 256 : Nat) : Int)) (congrArg (Value.int .u8) (by omega)) (q_conv8 rfl)) rfl ?_; refine st_q (by exact q_indexAddr_arr (o' := 4 * i + 2) rfl rfl (by omega) (by omega) (by omega)) rfl ?_; refine st_e0 ?_; refine e_store1l (l := outK s (4 * i + 2)) (l' := outK s (4 * i + 2 + 1)) rfl rfl rfl (by (repeat (first | exact List.Mem.head _ | apply List.Mem.tail))) (by rw [setL_eq]; exact outK_set s (4 * i + 2) (by omega) b2) (by (repeat (first | exact Pl.here | apply Pl.there))) (by simp [outK]; omega) (by first | (left; simp; done) | (right; omega)) ?_; refine l_nil ?_) | (refine c_region (id := 20) ?_; refine st_q (by exact q_move rfl) rfl ?_; refine st_q (by exact Qt.cast (v' := .int .i64 ((4 * i : Nat) : Int)) (congrArg (Value.int .i64) (by omega)) (q_mul64 rfl rfl ⟨by omega, by omega⟩ rfl)) rfl ?_; refine st_q (by exact Qt.cast (v' := .int .i64 ((4 * i + 3 : Nat) : Int)) (congrArg (Value.int .i64) (by omega)) (q_add64 rfl rfl ⟨by omega, by omega⟩ rfl)) rfl ?_; refine st_q (by exact q_move rfl) rfl ?_; refine st_q (by exact Qt.cast (v' := .int .u8 ((x / 1 % 256 : Nat) : Int)) (congrArg (Value.int .u8) (by omega)) (q_conv8 rfl)) rfl ?_; refine st_q (by exact q_indexAddr_arr (o' := 4 * i + 3) rfl rfl (by omega) (by omega) (by omega)) rfl ?_; refine st_e0 ?_; refine e_store1l (l := outK s (4 * i + 3)) (l' := outK s (4 * i + 3 + 1)) rfl rfl rfl (by (repeat (first | exact List.Mem.head _ | apply List.Mem.tail))) (by rw [setL_eq]; exact outK_set s (4 * i + 3) (by omega) b3) (by (repeat (first | exact Pl.here | apply Pl.there))) (by simp [outK]; omega) (by first | (left; simp; done) | (right; omega)) ?_; refine l_nil ?_) | (refine c_region (id := 21) ?_; refine st_q (by exact q_add64 rfl rfl ⟨by omega, by omega⟩ (by first | (simp only [Nat.zero_add, Nat.add_zero, Nat.mul_one, Nat.one_mul, Int.toNat_natCast, Int.reduceToNat, Nat.reduceMul, Nat.reduceAdd, Nat.reduceSub, Int.reduceAdd, Int.reduceSub, Int.reduceMul, Nat.sub_zero, Int.toNat_zero, Int.zero_add, Int.add_zero, Int.sub_zero, Int.mul_one, Int.one_mul]; try exact rfl) | exact rfl)) rfl ?_; refine st_q (by exact q_move rfl) rfl ?_; refine l_nil ?_) | refine n_then ?_ | refine c_block ?_ | refine c_skip ?_ | refine n_block ?_ | refine c_exit ?_ | refine n_then_exit ?_ | refine n_block_eq ?_ | refine n_block_ne rfl ?_ | refine c_ret ?_ | refine n_then_ret ?_ | refine n_block_ret ?_ | refine c_cond_t rfl ?_ | refine c_cond_f rfl ?_ | refine r_succ ?_ )
        refine c_round (i + 1) (by omega) (by omega) ⟨rfl, rfl, rfl, rfl, trivial⟩ (by rfl) (by (repeat (first | exact List.Sublist.slnil | apply List.Sublist.cons_cons | apply List.Sublist.cons)))
      · obtain rfl : i = 8 := by omega
        repeat (first | refine c_seq ?_ | (refine c_region (id := 22) ?_; refine st_q (by (first | exact q_load_blk rfl (by (repeat (first | exact List.Mem.head _ | apply List.Mem.tail))) (by first | rfl | assumption) | (refine q_load_row rfl ?_ ?_ <;> assumption))) rfl ?_; refine st_e0 ?_; refine e_store_all rfl rfl (by rfl) (by rfl) (by (repeat (first | exact Pl.here | apply Pl.there))) (by rfl) (by first | (left; simp; done) | (right; omega)) ?_; refine l_nil ?_) | refine n_then ?_ | refine c_block ?_ | refine c_skip ?_ | refine n_block ?_ | refine c_exit ?_ | refine n_then_exit ?_ | refine n_block_eq ?_ | refine n_block_ne rfl ?_ | refine c_ret ?_ | refine n_then_ret ?_ | refine n_block_ret ?_ | refine c_cond_t rfl ?_ | refine c_cond_f rfl ?_ | refine r_succ ?_ )
        (first | apply r_ret H2 | apply r_end H2); exact rfl; exact rfl; exact (.row rfl (by (repeat (first | exact List.Mem.head _ | apply List.Mem.tail))) (by rfl) .nil); exact (by show Value.agg (outK s 32).toArray = _; rw [outK_32]); exact (by rw [hs]; exact (by (repeat (first | exact List.Sublist.slnil | apply List.Sublist.cons_cons | apply List.Sublist.cons)))); exact (new_blk (.inl (by simp)) new_nil); exact trivial
theorem allOne_u8' (l : List Int) : allOne (l.map (Value.int .u8)).toArray.toList = true := by
  show allOne (l.map (Value.int .u8)) = true
  induction l with
  | nil => rfl
  | cons x l ih => simpa [allOne, Value.oneCell'] using ih
theorem padX (xs : List Int) : ((xs ++ padL xs.length).drop xs.length).take (tlN xs.length) = padL xs.length := by
  rw [List.drop_left, List.take_of_length_le (by rw [padL_len]; exact Nat.le_refl _)]
theorem padX_bd {xs : List Int} (h : ∀ x ∈ xs, 0 ≤ x ∧ x ≤ 255) : ∀ x ∈ (xs ++ padL xs.length), 0 ≤ x ∧ x ≤ 255 := fun x hx => (List.mem_append.1 hx).elim (h x) (padL_bd _ x)
theorem joined_bd {w : World} {ps : List Prt} (h : ∀ p ∈ ps, p.Ok w) : ∀ x ∈ joined ps, 0 ≤ x ∧ x ≤ 255 := fun x hx => by
  obtain ⟨p, hp, hx⟩ := List.mem_flatMap.1 hx
  exact (h p hp).r x hx
set_option maxRecDepth 100000 in
set_option maxHeartbeats 4000000 in
theorem sum_c (Kt : List Nat) (ps : List Prt) (ap : Option Addr) (cp0 : Nat) (hn : ps.length ≤ 1000) (xs : List Int) (hxs : xs = joined ps) (hbig : xs.length ≤ 100000000) (w : World) (hgw : 1 < w.heap.size) (hKT : KT w 1 Kt) (hps : ∀ p ∈ ps, p.Ok w) (hO : SlE Prt.v w ap ps) :
    CA Tryd.prog 15 [.slice ap ps.length cp0] w (RV (.agg ((shaX Kt xs).map (Value.int .u8)).toArray) w) := by
  have hxb : ∀ x ∈ xs, 0 ≤ x ∧ x ≤ 255 := by rw [hxs]; exact joined_bd hps
  obtain ⟨X, hX⟩ : ∃ X, X = (xs ++ padL xs.length) := ⟨_, rfl⟩
  have hXb : ∀ x ∈ X, 0 ≤ x ∧ x ≤ 255 := by rw [hX]; exact padX_bd hxb
  have hXp : (X.drop xs.length).take (tlN xs.length) = padL xs.length := by rw [hX]; exact padX xs
  have hXl : X.length = xs.length + tlN xs.length := by rw [hX, List.length_append, padL_len]
  have htl := tlN_bd xs.length
  have hX0 : (X.drop 0).take (joined ps).length = joined ps := by rw [hX, ← hxs, List.drop_zero, List.take_left]
  have hjl : (joined ps).length = xs.length := by rw [hxs]
  refine enter (L := []) (X := []) Tryd.func15 rfl Tryd.ntmps15 rfl rfl (Has.nil _) ?_
  repeat (first | refine c_seq ?_ | (refine c_region (id := 0) ?_; refine st_e ?_; refine e_alloc rfl ?_; refine l_nil ?_) | (refine c_region (id := 1) ?_; refine st_e ?_; refine e_callp rfl rfl (by kernel_rfl) rfl (fun w hC hm hL => begin_c w) ?_; intro m' hm'; refine st_e ?_; refine e_alloc rfl ?_; refine st_e0 ?_; refine e_store_all rfl rfl (by rfl) (by rfl) (by (repeat (first | exact Pl.here | apply Pl.there))) (by rfl) (by first | (left; simp; done) | (right; omega)) ?_; refine l_nil ?_) | refine n_then ?_ | refine c_block ?_ | refine c_skip ?_ | refine n_block ?_ | refine c_exit ?_ | refine n_then_exit ?_ | refine n_block_eq ?_ | refine n_block_ne rfl ?_ | refine c_ret ?_ | refine n_then_ret ?_ | refine n_block_ret ?_ | refine c_cond_t rfl ?_ | refine c_cond_f rfl ?_ | refine r_succ ?_ )
  refine chg (L' := [.blk m' (DX Kt X 0 zeros64), .blk w.heap.size (.cells (List.replicate 32 (Value.int .u8 0)).toArray 26 (0, 0))]) (by rfl) ?_
  repeat (first | refine c_seq ?_ | (refine c_region (id := 2) ?_; refine st_q (by exact q_move rfl) rfl ?_; refine st_e ?_; refine e_call (Y := [m']) (L' := [.blk w.heap.size (.cells (List.replicate 32 (Value.int .u8 0)).toArray 26 (0, 0))]) rfl rfl (by kernel_rfl) rfl (fun w hC hm hL => by exact putAll_c Kt _ (by omega) X hXb 0 ps ap cp0 hn hX0 (by omega) (by omega) zeros64 (begin_hd X) w (hKT.ch hC (by simp)) (fun p hp => (hps p hp).ch hC (by simp)) (fun p hp g2 o e h9 => by have := (hps p hp).lt g2 o e h9; omega) (hO.ch0 hC) (fun g2 o e h9 => by have := hO.lt g2 o e h9; omega) (hL.sub (by (repeat (first | exact List.Sublist.slnil | apply List.Sublist.cons_cons | apply List.Sublist.cons))))) (by simp; omega) (by exact (by (repeat (first | exact List.Sublist.slnil | apply List.Sublist.cons_cons | apply List.Sublist.cons)))) (by simp [feet, Chunk.foot]; omega) ?_; intro Ha ma hHa hna hma; refine l_nil ?_) | refine n_then ?_ | refine c_block ?_ | refine c_skip ?_ | refine n_block ?_ | refine c_exit ?_ | refine n_then_exit ?_ | refine n_block_eq ?_ | refine n_block_ne rfl ?_ | refine c_ret ?_ | refine n_then_ret ?_ | refine n_block_ret ?_ | refine c_cond_t rfl ?_ | refine c_cond_f rfl ?_ | refine r_succ ?_ )
  rw [Nat.zero_add, hjl] at hHa
  refine chg (L' := [.blk m' (DX Kt X xs.length Ha), .blk w.heap.size (.cells (List.replicate 32 (Value.int .u8 0)).toArray 26 (0, 0))]) (by rw [Nat.zero_add, hjl]; rfl) ?_
  repeat (first | refine c_seq ?_ | (refine c_region (id := 3) ?_; refine st_e ?_; refine e_call (Y := [m']) (L' := [.blk w.heap.size (.cells (List.replicate 32 (Value.int .u8 0)).toArray 26 (0, 0))]) rfl rfl (by kernel_rfl) rfl (fun w hC hm hL => by exact end_c Kt _ (by omega) X hXb xs.length (by omega) hXl hXp Ha hHa w (hKT.ch hC (by simp)) (by omega) (hL.sub (by (repeat (first | exact List.Sublist.slnil | apply List.Sublist.cons_cons | apply List.Sublist.cons))))) (by simp; omega) (by exact (by (repeat (first | exact List.Sublist.slnil | apply List.Sublist.cons_cons | apply List.Sublist.cons)))) (by simp [feet, Chunk.foot]; omega) ?_; intro He me hHe hne hme; refine st_e0 ?_; refine e_store_all rfl rfl (by simp [sumL_len]) (allOne_u8' _) (by (repeat (first | exact Pl.here | apply Pl.there))) (by rfl) (by first | (left; simp; done) | (right; omega)) ?_; refine l_nil ?_) | refine n_then ?_ | refine c_block ?_ | refine c_skip ?_ | refine n_block ?_ | refine c_exit ?_ | refine n_then_exit ?_ | refine n_block_eq ?_ | refine n_block_ne rfl ?_ | refine c_ret ?_ | refine n_then_ret ?_ | refine n_block_ret ?_ | refine c_cond_t rfl ?_ | refine c_cond_f rfl ?_ | refine r_succ ?_ )
  (first | apply r_ret () | apply r_end ()); exact rfl; exact rfl; exact (.row rfl (by (repeat (first | exact List.Mem.head _ | apply List.Mem.tail))) (by simp [sumL_len]) .nil); exact (by unfold shaX; rw [← hX]; rfl); exact (List.nil_sublist _); exact new_nil; exact trivial
end Go.Proofs.YtaeiknpiofnmeaaDoor
