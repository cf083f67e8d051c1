/- ChaCha20: streams. -/
import Derived.Test.YtgfodhbejcbogaaCs6
namespace Go.Proofs.Ytgfodhbejcbogaa
open Go Go.RowKit
set_option linter.unusedVariables false
set_option linter.unusedSimpArgs false
def strI (kb nb : Nat → Int) (c : Int) (k : Nat) : List Int := (List.range k).map (strm kb nb c)
def strL (kb nb : Nat → Int) (c : Int) (k : Nat) : List Value := (strI kb nb c k).map (Value.int .u8)
theorem strL_len (kb nb : Nat → Int) (c : Int) (k : Nat) : (strL kb nb c k).length = k := by simp [strL, strI]
theorem strI_len (kb nb : Nat → Int) (c : Int) (k : Nat) : (strI kb nb c k).length = k := by simp [strI]
theorem strL_block (kb nb : Nat → Int) (c : Int) (i : Nat) : strL kb nb c (64 * i) ++ (blkN kb nb (ctr c i)).toList = strL kb nb c (64 * (i + 1)) := by
  have e : (blkN kb nb (ctr c i)).toList = ((List.range 64).map fun j => strm kb nb c (64 * i + j)).map (Value.int .u8) := by
    unfold blkN outN
    rw [List.toList_toArray]
    congr 1
    apply List.ext_getElem
    · simp [outL]
    · intro j h1 h2
      have hj : j < 64 := by simpa using h2
      simp only [List.getElem_map, List.getElem_range]
      unfold strm
      rw [show (64 * i + j) / 64 = i by omega, show (64 * i + j) % 64 = j by omega]
      unfold blkL
      rw [List.getD_eq_getElem?_getD, List.getElem?_eq_getElem h1, Option.getD_some]
  rw [e]
  unfold strL strI
  rw [← List.map_append]
  congr 1
  rw [show 64 * (i + 1) = 64 * i + 64 by omega, List.range_add, List.map_append, List.map_map]
  rfl
theorem strL_take (kb nb : Nat → Int) (c : Int) (j k : Nat) (h : k ≤ j) : (strL kb nb c j).take k = strL kb nb c k := by
  unfold strL strI
  rw [← List.map_take, ← List.map_take, List.take_range, Nat.min_eq_left h]
theorem byt_bd (x : Int) (j : Nat) : 0 ≤ byt x j ∧ byt x j ≤ 255 := by unfold byt; omega
theorem strm_bd (kb nb : Nat → Int) (c : Int) (i : Nat) : 0 ≤ strm kb nb c i ∧ strm kb nb c i ≤ 255 := by
  unfold strm blkL outL
  rw [List.getD_eq_getElem?_getD, List.getElem?_map, List.getElem?_range (by omega)]
  simp only [Option.map_some, Option.getD_some]
  unfold outF
  split
  · exact byt_bd _ _
  · omega
theorem xor8_0 (s : Int) (h : 0 ≤ s ∧ s ≤ 255) : bits .xor .u8 0 s = s := by
  obtain ⟨n, rfl⟩ := Int.eq_ofNat_of_zero_le h.1
  have h2 : n < 256 := by omega
  have := u8_xor_nat 0 n (by omega) h2
  simpa using this
theorem outX_zero (kb nb : Nat → Int) (c : Int) (k : Nat) : outX (List.replicate k 0) kb nb c k = strL kb nb c k := by
  unfold outX strL strI
  rw [List.length_replicate, List.map_map]
  apply List.map_congr_left
  intro i hi
  have : i < k := List.mem_range.1 hi
  rw [if_pos this, List.getD_eq_getElem?_getD, List.getElem?_replicate, if_pos this, Option.getD_some, xor8_0 _ (strm_bd kb nb c i)]
  rfl

set_option maxRecDepth 100000 in
set_option maxHeartbeats 4000000 in
theorem rstream_c (kb nb : Nat → Int) (hk : ∀ i, 0 ≤ kb i ∧ kb i ≤ 255) (hn : ∀ i, 0 ≤ nb i ∧ nb i ≤ 255) (c : Int) (hc : W32 c) (n : Nat) (hnn : n ≤ 1000000) (w : World) :
    CA Try.prog 11 [.agg (keyA kb), .agg (nonA nb), .int .u32 c, .int .i64 n] w (Ret (fun z : Option Addr × Nat => .slice z.1 n z.2) [] (fun z => [.sl z.1 z.2 5 1 (strL kb nb c n)]) (fun z => OB z.1 (strL kb nb c n) ∧ n ≤ z.2) w) := by
  refine enter (L := []) (X := []) Try.func11 rfl Try.ntmps11 rfl rfl (Has.nil _) ?_
  repeat (first | refine c_seq ?_ | (refine c_region (id := 0) ?_; refine st_e ?_; refine e_box_agg rfl rfl ?_; refine st_e ?_; refine e_box_agg rfl rfl ?_; refine st_q (by exact q_assign rfl) rfl ?_; refine l_nil ?_) | (refine c_region (id := 1) ?_; refine st_q (by exact q_assign rfl) rfl ?_; refine l_nil ?_) | (refine c_region (id := 2) ?_; refine st_q (by exact q_assign rfl) rfl ?_; refine l_nil ?_) | refine n_then ?_ | refine c_block ?_ | refine c_skip ?_ | refine n_block ?_ | refine c_exit ?_ | refine n_then_exit ?_ | refine n_block_eq ?_ | refine n_block_ne rfl ?_ | refine c_ret ?_ | refine n_then_ret ?_ | refine n_block_ret ?_ | refine c_cond_t rfl ?_ | refine c_cond_f rfl ?_ | refine r_succ ?_ )
  refine add_nil 5 1 ?_
  refine c_loop (γ := Nat × Option Addr × Nat × Nat) (fun z => [(10, .int .i64 z.1), (9, .slice z.2.1 (64 * z.1) z.2.2.1), (3, .int .i64 n), (2, .int .u32 c), (4, .pointer (some ⟨w.heap.size, 0, none⟩)), (5, .pointer (some ⟨w.heap.size + 1, 0, none⟩))]) (fun z => z.2.2.2) (fun z => [.sl z.2.1 z.2.2.1 5 1 (strL kb nb c (64 * z.1)), .blk (w.heap.size + 1) (.cells (nonA nb) 28 (0, 0)), .blk w.heap.size (.cells (keyA kb) 22 (0, 0))])
    (fun z => (z.1 = 0 ∨ 64 * (z.1 - 1) < n) ∧ 64 * z.1 ≤ z.2.2.1 ∧ z.2.2.1 ≤ 9223372036854775807 ∧ OB z.2.1 (strL kb nb c (64 * z.1)) ∧ (∀ g ∈ (Chunk.sl z.2.1 0 0 1 []).foot, w.heap.size ≤ g) ∧ w.heap.size + 2 ≤ z.2.2.2) (fun z => n + 64 - 64 * z.1) ⟨0, none, 0, w.heap.size + 1 + 1⟩ ⟨.inl rfl, by simp, by simp, .inl ⟨rfl, rfl⟩, by simp [Chunk.foot], by simp⟩ ⟨rfl, rfl, rfl, rfl, rfl, rfl, trivial⟩ rfl (by
    show List.Sublist [_, _, _] _
    (repeat (first | exact List.Sublist.slnil | apply List.Sublist.cons_cons | apply List.Sublist.cons))) ?_
  rintro ⟨i, b, cap, mm⟩ ⟨hi, hic, hcm, hOB, hfo, hmm⟩
  dsimp only at hi hic hcm hOB hfo hmm ⊢
  repeat (first | refine c_seq ?_ | (refine c_region (id := 3) ?_; refine st_q (by exact q_move rfl) rfl ?_; refine st_q (by exact q_mul64 rfl rfl ⟨by omega, by omega⟩ (by first | (simp only [Nat.zero_add, Nat.add_zero, Nat.mul_one, Nat.one_mul, Int.toNat_natCast, Int.reduceToNat, Nat.reduceMul, Nat.reduceAdd, Nat.reduceSub, Int.reduceAdd, Int.reduceSub, Int.reduceMul, Nat.sub_zero, Int.toNat_zero, Int.zero_add, Int.add_zero, Int.sub_zero, Int.mul_one, Int.one_mul]; try exact rfl) | exact rfl)) rfl ?_; refine st_q (by exact q_move rfl) rfl ?_; refine st_q (by exact q_lss rfl rfl) rfl ?_; refine l_nil ?_) | refine n_then ?_ | refine c_block ?_ | refine c_skip ?_ | refine n_block ?_ | refine c_exit ?_ | refine n_then_exit ?_ | refine n_block_eq ?_ | refine n_block_ne rfl ?_ | refine c_ret ?_ | refine n_then_ret ?_ | refine n_block_ret ?_ | refine c_cond_t rfl ?_ | refine c_cond_f rfl ?_ | refine r_succ ?_ )
  refine c_cond_dec rfl (fun h => ?_) (fun h => ?_)
  · have hx : ((c + (i : Int) % 4294967296) % 4294967296) = ctr c i := by unfold ctr; omega
    repeat (first | refine c_seq ?_ | (refine c_region (id := 4) ?_; refine st_q (by exact q_move rfl) rfl ?_; refine st_q (by exact q_add64 rfl rfl ⟨by omega, by omega⟩ (by first | (simp only [Nat.zero_add, Nat.add_zero, Nat.mul_one, Nat.one_mul, Int.toNat_natCast, Int.reduceToNat, Nat.reduceMul, Nat.reduceAdd, Nat.reduceSub, Int.reduceAdd, Int.reduceSub, Int.reduceMul, Nat.sub_zero, Int.toNat_zero, Int.zero_add, Int.add_zero, Int.sub_zero, Int.mul_one, Int.one_mul]; try exact rfl) | exact rfl)) rfl ?_; refine st_q (by exact q_assign rfl) rfl ?_; refine l_nil ?_) | (refine c_region (id := 5) ?_; refine st_q (by (first | exact q_load_blk rfl (by (repeat (first | exact List.Mem.head _ | apply List.Mem.tail))) (by first | rfl | assumption) | (refine q_load_row rfl ?_ ?_ <;> assumption))) rfl ?_; refine st_q (by (first | exact q_load_blk rfl (by (repeat (first | exact List.Mem.head _ | apply List.Mem.tail))) (by first | rfl | assumption) | (refine q_load_row rfl ?_ ?_ <;> assumption))) rfl ?_; refine st_q (by exact q_move rfl) rfl ?_; refine st_q (by exact q_move rfl) rfl ?_; refine st_q (by exact q_conv32 rfl) rfl ?_; refine st_q (by exact q_add32 rfl rfl) rfl ?_; refine st_e ?_; refine e_callp rfl rfl (by kernel_rfl) rfl (fun w hC hm hL => (by rw [hx]; exact (rblock_c kb nb hk hn (ctr c i) w : CA _ _ _ _ (RV (.agg (blkN kb nb (ctr c i))) w)))) ?_; intro m' hm'; refine st_e ?_; refine e_alloc rfl ?_; refine st_e0 ?_; refine e_store_all rfl rfl (outN_size _ _ _) (outN_one _ _ _) (by (repeat (first | exact Pl.here | apply Pl.there))) (by rfl) (by first | (left; simp; done) | (right; omega)) ?_; refine l_nil ?_) | (refine c_region (id := 6) ?_; refine st_q (by exact q_move rfl) rfl ?_; refine st_q (by exact q_slice_arr rfl rfl rfl (by omega) (by omega) (by omega) (by first | (simp only [Nat.zero_add, Nat.add_zero, Nat.mul_one, Nat.one_mul, Int.toNat_natCast, Int.reduceToNat, Nat.reduceMul, Nat.reduceAdd, Nat.reduceSub, Int.reduceAdd, Int.reduceSub, Int.reduceMul, Nat.sub_zero, Int.toNat_zero, Int.zero_add, Int.add_zero, Int.sub_zero, Int.mul_one, Int.one_mul, if_neg, if_pos, reduceIte, Option.map_some, Addr.add_mid, Nat.reduceEqDiff]; try exact rfl) | (rw [if_neg (by omega)]; first | (simp only [Nat.zero_add, Nat.add_zero, Nat.mul_one, Nat.one_mul, Int.toNat_natCast, Int.reduceToNat, Nat.reduceMul, Nat.reduceAdd, Nat.reduceSub, Int.reduceAdd, Int.reduceSub, Int.reduceMul, Nat.sub_zero, Int.toNat_zero, Int.zero_add, Int.add_zero, Int.sub_zero, Int.mul_one, Int.one_mul, Option.map_some, Addr.add_mid]; try exact rfl) | exact rfl) | (rw [if_pos (by omega)])) (by first | (simp only [Nat.zero_add, Nat.add_zero, Nat.mul_one, Nat.one_mul, Int.toNat_natCast, Int.reduceToNat, Nat.reduceMul, Nat.reduceAdd, Nat.reduceSub, Int.reduceAdd, Int.reduceSub, Int.reduceMul, Nat.sub_zero, Int.toNat_zero, Int.zero_add, Int.add_zero, Int.sub_zero, Int.mul_one, Int.one_mul]; try exact rfl) | exact rfl) (by first | (simp only [Nat.zero_add, Nat.add_zero, Nat.mul_one, Nat.one_mul, Int.toNat_natCast, Int.reduceToNat, Nat.reduceMul, Nat.reduceAdd, Nat.reduceSub, Int.reduceAdd, Int.reduceSub, Int.reduceMul, Nat.sub_zero, Int.toNat_zero, Int.zero_add, Int.add_zero, Int.sub_zero, Int.mul_one, Int.one_mul]; try exact rfl) | exact rfl)) rfl ?_; refine st_e ?_; refine e_append (news := (blkN kb nb (ctr c i)).toList) rfl rfl rfl (by rfl) (by (repeat (first | exact Rm.here | apply Rm.there))) (RdN.blk (by (repeat (first | exact List.Mem.head _ | apply List.Mem.tail))) (by exact List.take_length)) (by rw [strL_len]; omega) (by rw [Array.length_toList]; exact outN_size _ _ _) (by omega) (by omega) (outN_one _ _ _) (by omega) (by omega) (fun g hg => .inr (hfo g (by cases b <;> exact hg))) ?_; intro b2 cap2 m2 hfoot2 hlc2 hcap2 hm2 hOB2; refine st_q (by exact q_assign rfl) rfl ?_; refine l_nil ?_) | refine n_then ?_ | refine c_block ?_ | refine c_skip ?_ | refine n_block ?_ | refine c_exit ?_ | refine n_then_exit ?_ | refine n_block_eq ?_ | refine n_block_ne rfl ?_ | refine c_ret ?_ | refine n_then_ret ?_ | refine n_block_ret ?_ | refine c_cond_t rfl ?_ | refine c_cond_f rfl ?_ | refine r_succ ?_ )
    refine chg (L' := [.sl b2 cap2 5 1 (strL kb nb c (64 * (i + 1))), .blk m' (.cells (blkN kb nb (ctr c i)) 35 (0, 0)), .blk (w.heap.size + 1) (.cells (nonA nb) 28 (0, 0)), .blk w.heap.size (.cells (keyA kb) 22 (0, 0))]) (by rw [strL_block]; rfl) ?_
    rw [strL_block] at hOB2
    refine c_round ⟨i + 1, b2, cap2, m2⟩ ⟨by dsimp only; omega, by dsimp only; omega, hcap2, hOB2, fun g hg => ?_, by dsimp only; omega⟩ (by dsimp only; omega) ⟨rfl, rfl, rfl, rfl, rfl, rfl, trivial⟩ (by rfl) (by (repeat (first | exact List.Sublist.slnil | apply List.Sublist.cons_cons | apply List.Sublist.cons)))
    have := hfoot2 g (by cases b2 <;> exact hg)
    simpa using this
  · have hn2 : n ≤ 64 * i := by omega
    have hsl : (if cap = (0 : Int).toNat then b else b.map (·.add ((0 : Int).toNat * 1))) = b := by
      rcases hOB with ⟨rfl, _⟩ | ⟨g, rfl⟩
      · simp
      · simp; intro _; rfl
    repeat (first | refine c_seq ?_ | (refine c_region (id := 7) ?_; refine st_q (by exact q_move rfl) rfl ?_; refine st_q (by exact q_move rfl) rfl ?_; refine st_q (by exact q_slice (len' := n) (cap' := cap) rfl rfl rfl (by omega) (by omega) (by omega) (by omega) hsl (by simp) (by simp)) rfl ?_; refine st_q (by exact q_assign rfl) rfl ?_; refine l_nil ?_) | refine n_then ?_ | refine c_block ?_ | refine c_skip ?_ | refine n_block ?_ | refine c_exit ?_ | refine n_then_exit ?_ | refine n_block_eq ?_ | refine n_block_ne rfl ?_ | refine c_ret ?_ | refine n_then_ret ?_ | refine n_block_ret ?_ | refine c_cond_t rfl ?_ | refine c_cond_f rfl ?_ | refine r_succ ?_ )
    have hOBn : OB b (strL kb nb c n) := by
      rcases hOB with ⟨rfl, h0⟩ | ⟨g, rfl⟩
      · refine .inl ⟨rfl, ?_⟩
        have := congrArg List.length h0
        rw [strL_len] at this
        have h9 : n = 0 := by simp at this; omega
        rw [h9]; rfl
      · exact .inr ⟨g, rfl⟩
    refine wk_sl n (by (repeat (first | exact Pl.here | apply Pl.there))) ?_
    rw [strL_take _ _ _ _ _ hn2]
    (first | apply r_ret (b, cap) | apply r_end (b, cap)); exact rfl; exact rfl; exact (.tmp rfl .nil); exact rfl; exact (by exact (by (repeat (first | exact List.Sublist.slnil | apply List.Sublist.cons_cons | apply List.Sublist.cons)))); exact (new_sl (fun g hg => .inr (hfo g (by cases b <;> exact hg))) new_nil); exact ⟨hOBn, by dsimp only; omega⟩

set_option maxRecDepth 100000 in
set_option maxHeartbeats 4000000 in
theorem stream_c (kb nb : Nat → Int) (hk : ∀ i, 0 ≤ kb i ∧ kb i ≤ 255) (hn : ∀ i, 0 ≤ nb i ∧ nb i ≤ 255) (c : Int) (hc : W32 c) (n : Nat) (hnn : n ≤ 65536) (w : World) :
    CA Try.prog 10 [.agg (keyA kb), .agg (nonA nb), .int .u32 c, .int .i64 n] w (Ret (fun g : Nat => .tuple #[.slice (some ⟨g, 0, none⟩) n n, .int .i64 0]) [] (fun g => [.sl (some ⟨g, 0, none⟩) n 5 1 (strL kb nb c n)]) (fun _ => True) w) := by
  refine enter (L := []) (X := []) Try.func10 rfl Try.ntmps10 rfl rfl (Has.nil _) ?_
  repeat (first | refine c_seq ?_ | (refine c_region (id := 0) ?_; refine st_e ?_; refine e_box_agg rfl rfl ?_; refine st_e ?_; refine e_box_agg rfl rfl ?_; refine st_q (by exact q_assign rfl) rfl ?_; refine st_q (by exact q_assign rfl) rfl ?_; refine l_nil ?_) | (refine c_region (id := 1) ?_; refine st_q (by exact q_move rfl) rfl ?_; refine st_q (by (first | exact Qt.cast (congrArg Value.bool (decide_eq_true (by omega))) (q_lss rfl rfl) | exact Qt.cast (congrArg Value.bool (decide_eq_false (by omega))) (q_lss rfl rfl))) rfl ?_; refine st_q (by exact q_move rfl) rfl ?_; (first | refine st_skip rfl rfl rfl ?_ | (refine st_want rfl rfl ?_; refine st_q (by exact q_move rfl) rfl ?_)); (first | refine st_skip rfl rfl rfl ?_ | (refine st_want rfl rfl ?_; refine st_q (by (first | exact Qt.cast (congrArg Value.bool (decide_eq_true (by omega))) (q_gtr rfl rfl) | exact Qt.cast (congrArg Value.bool (decide_eq_false (by omega))) (q_gtr rfl rfl))) rfl ?_)); refine st_q (by (first | exact q_pick_t rfl rfl | exact q_pick_f rfl rfl)) rfl ?_; refine l_nil ?_) | refine n_then ?_ | refine c_block ?_ | refine c_skip ?_ | refine n_block ?_ | refine c_exit ?_ | refine n_then_exit ?_ | refine n_block_eq ?_ | refine n_block_ne rfl ?_ | refine c_ret ?_ | refine n_then_ret ?_ | refine n_block_ret ?_ | refine c_cond_t rfl ?_ | refine c_cond_f rfl ?_ | refine r_succ ?_ )
  repeat (first | refine c_seq ?_ | (refine x_region (id := 3) none [(0, .q), (1, .q), (2, .q), (3, .q), (4, .e), (5, .e), (6, .q), (7, .q)] _ mixed (by kernel_rfl) (List.Sublist.refl _) ?_; refine x_q rfl (by (first | exact q_load_blk rfl (by (repeat (first | exact List.Mem.head _ | apply List.Mem.tail))) (by first | rfl | assumption) | (refine q_load_row rfl ?_ ?_ <;> assumption))) rfl ?_; refine x_q rfl (by (first | exact q_load_blk rfl (by (repeat (first | exact List.Mem.head _ | apply List.Mem.tail))) (by first | rfl | assumption) | (refine q_load_row rfl ?_ ?_ <;> assumption))) rfl ?_; refine x_q rfl (by exact q_move rfl) rfl ?_; refine x_q rfl (by exact q_move rfl) rfl ?_; refine x_e rfl ?_; (first | refine e_make1n rfl rfl rfl (by omega) (by omega) (by omega) ?_ | refine e_make1 rfl rfl rfl (by omega) (by omega) (by omega) (by omega) ?_); refine x_k (by (repeat (first | exact List.Sublist.slnil | apply List.Sublist.cons_cons | apply List.Sublist.cons))) ?_; refine x_e rfl ?_; refine e_call (Y := []) rfl rfl (by kernel_rfl) rfl (fun w hC hm hL => xor_c kb nb hk hn c hc (some _) n n (List.replicate n 0) (by omega) (by omega) w ⟨List.length_replicate, .inr ⟨_, _, rfl, hL.old_sl (k := n) (by (repeat (first | exact List.Mem.head _ | apply List.Mem.tail))) (by simp)⟩⟩) (by simp) (List.Sublist.refl _) (by simp) ?_; intro g1 m1 _ hnew hm1; refine x_k (by (repeat (first | exact List.Sublist.slnil | apply List.Sublist.cons_cons | apply List.Sublist.cons))) ?_; refine x_q rfl (by exact q_assign rfl) rfl ?_; refine x_q rfl (by exact q_assign rfl) rfl ?_; refine x_nil ?_) | refine n_then ?_ | refine c_block ?_ | refine c_skip ?_ | refine n_block ?_ | refine c_exit ?_ | refine n_then_exit ?_ | refine n_block_eq ?_ | refine n_block_ne rfl ?_ | refine c_ret ?_ | refine n_then_ret ?_ | refine n_block_ret ?_ | refine c_cond_t rfl ?_ | refine c_cond_f rfl ?_ | refine r_succ ?_ )
  rw [outX_zero]
  (first | apply r_ret g1 | apply r_end g1); exact rfl; exact rfl; exact (.tmp rfl (.tmp rfl .nil)); exact rfl; exact (by exact (by (repeat (first | exact List.Sublist.slnil | apply List.Sublist.cons_cons | apply List.Sublist.cons)))); exact (new_sl (fun g hg => (hnew g (by simpa [feet, Chunk.foot] using hg)).elim (fun h => .inl h) (fun h => .inr (by omega))) new_nil); exact trivial
set_option maxRecDepth 100000 in
set_option maxHeartbeats 4000000 in
theorem stream_no (kb nb : Nat → Int) (c : Int) (n : Int) (hnn : n < 0 ∨ 65536 < n) (w : World) :
    CA Try.prog 10 [.agg (keyA kb), .agg (nonA nb), .int .u32 c, .int .i64 n] w (RV (.tuple #[.slice none 0 0, .int .i64 1]) w) := by
  rcases hnn with hnn | hnn
  · refine enter (L := []) (X := []) Try.func10 rfl Try.ntmps10 rfl rfl (Has.nil _) ?_
    repeat (first | refine c_seq ?_ | (refine c_region (id := 0) ?_; refine st_e ?_; refine e_box_agg rfl rfl ?_; refine st_e ?_; refine e_box_agg rfl rfl ?_; refine st_q (by exact q_assign rfl) rfl ?_; refine st_q (by exact q_assign rfl) rfl ?_; refine l_nil ?_) | (refine c_region (id := 1) ?_; refine st_q (by exact q_move rfl) rfl ?_; refine st_q (by (first | exact Qt.cast (congrArg Value.bool (decide_eq_true (by omega))) (q_lss rfl rfl) | exact Qt.cast (congrArg Value.bool (decide_eq_false (by omega))) (q_lss rfl rfl))) rfl ?_; refine st_q (by exact q_move rfl) rfl ?_; (first | refine st_skip rfl rfl rfl ?_ | (refine st_want rfl rfl ?_; refine st_q (by exact q_move rfl) rfl ?_)); (first | refine st_skip rfl rfl rfl ?_ | (refine st_want rfl rfl ?_; refine st_q (by (first | exact Qt.cast (congrArg Value.bool (decide_eq_true (by omega))) (q_gtr rfl rfl) | exact Qt.cast (congrArg Value.bool (decide_eq_false (by omega))) (q_gtr rfl rfl))) rfl ?_)); refine st_q (by (first | exact q_pick_t rfl rfl | exact q_pick_f rfl rfl)) rfl ?_; refine l_nil ?_) | (refine c_region (id := 2) ?_; refine st_q (by exact q_assign rfl) rfl ?_; refine st_q (by exact q_assign rfl) rfl ?_; refine l_nil ?_) | refine n_then ?_ | refine c_block ?_ | refine c_skip ?_ | refine n_block ?_ | refine c_exit ?_ | refine n_then_exit ?_ | refine n_block_eq ?_ | refine n_block_ne rfl ?_ | refine c_ret ?_ | refine n_then_ret ?_ | refine n_block_ret ?_ | refine c_cond_t rfl ?_ | refine c_cond_f rfl ?_ | refine r_succ ?_ )
    (first | apply r_ret () | apply r_end ()); exact rfl; exact rfl; exact (.tmp rfl (.tmp rfl .nil)); exact rfl; exact (List.nil_sublist _); exact new_nil; exact trivial
  · refine enter (L := []) (X := []) Try.func10 rfl Try.ntmps10 rfl rfl (Has.nil _) ?_
    repeat (first | refine c_seq ?_ | (refine c_region (id := 0) ?_; refine st_e ?_; refine e_box_agg rfl rfl ?_; refine st_e ?_; refine e_box_agg rfl rfl ?_; refine st_q (by exact q_assign rfl) rfl ?_; refine st_q (by exact q_assign rfl) rfl ?_; refine l_nil ?_) | (refine c_region (id := 1) ?_; refine st_q (by exact q_move rfl) rfl ?_; refine st_q (by (first | exact Qt.cast (congrArg Value.bool (decide_eq_true (by omega))) (q_lss rfl rfl) | exact Qt.cast (congrArg Value.bool (decide_eq_false (by omega))) (q_lss rfl rfl))) rfl ?_; refine st_q (by exact q_move rfl) rfl ?_; (first | refine st_skip rfl rfl rfl ?_ | (refine st_want rfl rfl ?_; refine st_q (by exact q_move rfl) rfl ?_)); (first | refine st_skip rfl rfl rfl ?_ | (refine st_want rfl rfl ?_; refine st_q (by (first | exact Qt.cast (congrArg Value.bool (decide_eq_true (by omega))) (q_gtr rfl rfl) | exact Qt.cast (congrArg Value.bool (decide_eq_false (by omega))) (q_gtr rfl rfl))) rfl ?_)); refine st_q (by (first | exact q_pick_t rfl rfl | exact q_pick_f rfl rfl)) rfl ?_; refine l_nil ?_) | (refine c_region (id := 2) ?_; refine st_q (by exact q_assign rfl) rfl ?_; refine st_q (by exact q_assign rfl) rfl ?_; refine l_nil ?_) | refine n_then ?_ | refine c_block ?_ | refine c_skip ?_ | refine n_block ?_ | refine c_exit ?_ | refine n_then_exit ?_ | refine n_block_eq ?_ | refine n_block_ne rfl ?_ | refine c_ret ?_ | refine n_then_ret ?_ | refine n_block_ret ?_ | refine c_cond_t rfl ?_ | refine c_cond_f rfl ?_ | refine r_succ ?_ )
    (first | apply r_ret () | apply r_end ()); exact rfl; exact rfl; exact (.tmp rfl (.tmp rfl .nil)); exact rfl; exact (List.nil_sublist _); exact new_nil; exact trivial
end Go.Proofs.Ytgfodhbejcbogaa
