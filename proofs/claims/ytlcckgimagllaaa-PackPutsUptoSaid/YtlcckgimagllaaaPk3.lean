/- pack: a number's bytes. -/
import Derived.Test.YtlcckgimagllaaaPk2
namespace Go.Proofs.Ytlcckgimagllaaa
open Go Go.RowKit
set_option linter.unusedVariables false
set_option linter.unusedSimpArgs false

/-- A number's bytes. -/
def leb (x : Nat) : List Int := if x < 128 then [(x : Int)] else ((x % 128 + 128 : Nat) : Int) :: leb (x / 128)
decreasing_by omega
theorem leb_small {x : Nat} (h : x < 128) : leb x = [(x : Int)] := by rw [leb, if_pos h]
theorem leb_big {x : Nat} (h : ¬ x < 128) : leb x = ((x % 128 + 128 : Nat) : Int) :: leb (x / 128) := by rw [leb, if_neg h]
theorem leb_bd (x : Nat) : ∀ y ∈ leb x, 0 ≤ y ∧ y ≤ 255 := by
  induction x using Nat.strongRecOn with
  | ind x ih =>
    by_cases h : x < 128
    · rw [leb_small h]; intro y hy; simp only [List.mem_singleton] at hy; omega
    · rw [leb_big h]; intro y hy
      rcases List.mem_cons.1 hy with rfl | hy
      · omega
      · exact ih (x / 128) (by omega) y hy
theorem or128 (c : Nat) : bits .or .u8 ((c % 256 : Nat) : Int) 128 = ((c % 128 + 128 : Nat) : Int) := by
  have h : ∀ z : Fin 256, bits .or .u8 ((z.val : Nat) : Int) 128 = ((z.val % 128 + 128 : Nat) : Int) := by decide +kernel
  have := h ⟨c % 256, by omega⟩
  simp only at this
  rw [this]
  congr 2
  omega
theorem pk_set (pk : List Int) (v : Int) (h : pk.length < 10) : ((pk ++ List.replicate (10 - pk.length) 0).map (Value.int .u8)).set pk.length (.int .u8 v) = ((pk ++ [v] ++ List.replicate (10 - (pk.length + 1)) 0).map (Value.int .u8)) := by
  obtain ⟨q, hq⟩ : ∃ q, 10 - pk.length = q + 1 := ⟨10 - pk.length - 1, by omega⟩
  rw [hq, show 10 - (pk.length + 1) = q by omega]
  simp [List.map_append, List.set_append_right, List.replicate_succ]
theorem pk_take (pk : List Int) (v : Int) (q : Nat) : ((((pk ++ [v] ++ List.replicate q 0).map (Value.int .u8)).toArray.toList.drop 0).take (pk.length + 1)) = (pk ++ [v]).map (Value.int .u8) := by
  rw [List.drop_zero, List.map_append]
  rw [show pk.length + 1 = ((pk ++ [v]).map (Value.int .u8)).length by simp]
  exact List.take_left
theorem pow_bound {n cur x : Nat} (h : cur * 128 ^ n ≤ x) (hx : x < 18446744073709551616) (hc : 1 ≤ cur) : n ≤ 9 := by
  rcases Nat.lt_or_ge n 10 with h9 | h9
  · omega
  · have h1 : 128 ^ 10 ≤ 128 ^ n := Nat.pow_le_pow_right (by omega) h9
    have h2 : 1 * 128 ^ n ≤ cur * 128 ^ n := Nat.mul_le_mul_right _ hc
    have h3 : (128 : Nat) ^ 10 = 1180591620717411303424 := by decide
    omega
theorem pow_step {n cur x : Nat} (h : cur * 128 ^ n ≤ x) : (cur / 128) * 128 ^ (n + 1) ≤ x := by
  rw [Nat.pow_succ, Nat.mul_comm (128 ^ n), ← Nat.mul_assoc]
  exact Nat.le_trans (Nat.mul_le_mul_right _ (Nat.div_mul_le_self _ _)) h
set_option maxRecDepth 100000 in
set_option maxHeartbeats 4000000 in
theorem num_c (go : Nat) (b : Option Addr) (cap : Nat) (xs : List Int) (lg : Bool) (hxb : ∀ x ∈ xs, 0 ≤ x ∧ x ≤ 255) (hxn : xs.length ≤ 16384) (ho : OS [] 0 b cap xs.length) (w : World) (hL0 : Has (OutL go b cap xs lg) w) (x : Nat) (hx64 : x < 18446744073709551616) :
    CA Try.prog 38 [.pointer (some ⟨go, 0, none⟩), .int .u64 (x : Int)] w (Ret (fun _ : Option Addr × Nat => .tuple #[]) (feet (OutL go b cap xs lg)) (fun z => OutL go z.1 z.2 ((pS xs lg (leb x)).1) ((pS xs lg (leb x)).2)) (fun z => OS [] 0 z.1 z.2 ((pS xs lg (leb x)).1).length) w) := by
  obtain ⟨gp, hgp⟩ : ∃ gp, gp = w.heap.size := ⟨_, rfl⟩
  refine enter (L := [.sl b cap 5 1 (xs.map (Value.int .u8)), .blk go (.cells #[.slice b xs.length cap, .bool lg] 51 (0, 0))]) (X := feet (OutL go b cap xs lg)) Try.func38 rfl Try.ntmps38 rfl rfl hL0 ?_
  rw [← hgp]
  repeat (first | refine c_seq ?_ | (refine c_region (id := 0) ?_; refine st_e ?_; refine e_alloc rfl ?_; refine l_nil ?_) | (refine c_region (id := 1) ?_; refine st_q (by exact q_assign rfl) rfl ?_; refine l_nil ?_) | refine n_then ?_ | refine c_block ?_ | refine c_skip ?_ | refine n_block ?_ | refine c_exit ?_ | refine n_then_exit ?_ | refine n_block_eq ?_ | refine n_block_ne rfl ?_ | refine c_ret ?_ | refine n_then_ret ?_ | refine n_block_ret ?_ | refine c_cond_t rfl ?_ | refine c_cond_f rfl ?_ | refine r_succ ?_ )
  refine chg (L' := .blk gp (.cells ((([] : List Int) ++ List.replicate (10) 0).map (Value.int .u8)).toArray 89 (0, 0)) :: OutL go b cap xs lg) (by rfl) ?_
  refine c_loop (γ := List Int × Nat) (fun z => [(5, .int .i64 ((z.1.length : Nat) : Int)), (4, .pointer (some ⟨gp, 0, none⟩)), (1, .int .u64 ((z.2 : Nat) : Int)), (0, .pointer (some ⟨go, 0, none⟩))]) (fun _ => gp + 1) (fun z => .blk gp (.cells ((z.1 ++ List.replicate (10 - z.1.length) 0).map (Value.int .u8)).toArray 89 (0, 0)) :: OutL go b cap xs lg) (fun z => leb x = z.1 ++ leb z.2 ∧ z.2 * 128 ^ z.1.length ≤ x ∧ 1 ≤ z.2 ∨ (z.1 = [] ∧ z.2 = x)) (fun z => z.2) ⟨[], x⟩ (.inr ⟨rfl, rfl⟩) ⟨rfl, rfl, rfl, rfl, trivial⟩ rfl (by (repeat (first | exact List.Sublist.slnil | apply List.Sublist.cons_cons | exact List.Sublist.refl _ | apply List.Sublist.cons))) ?_
  rintro ⟨pk, cur⟩ hpk
  dsimp only at hpk ⊢
  have hlx0 : leb x = pk ++ leb cur := by rcases hpk with h9 | h9; exact h9.1; rw [h9.1, h9.2]; rfl
  have hcx : cur * 128 ^ pk.length ≤ x := by rcases hpk with h9 | h9; exact h9.2.1; rw [h9.1, h9.2]; simp
  have hn9 : pk.length ≤ 9 := by rcases hpk with h9 | h9; exact pow_bound hcx hx64 h9.2.2; rw [h9.1]; simp
  have hcu : cur ≤ x := by
    have h7 := Nat.le_mul_of_pos_right cur (show 0 < 128 ^ pk.length from Nat.pow_pos (by omega)); omega
  by_cases hc : cur < 128
  · have hlx : leb x = pk ++ [(cur : Int)] := by rw [hlx0, leb_small hc]
    have hlx2 : (leb x).length = pk.length + 1 := by rw [hlx]; simp
    repeat (first | refine c_seq ?_ | (refine c_region (id := 2) ?_; refine st_q (by exact q_move rfl) rfl ?_; refine st_q (by (first | exact Qt.cast (congrArg Value.bool (decide_eq_true (by omega))) (q_geq rfl rfl) | exact Qt.cast (congrArg Value.bool (decide_eq_false (by omega))) (q_geq rfl rfl))) rfl ?_; refine l_nil ?_) | (refine c_region (id := 6) ?_; refine st_q (by exact q_move rfl) rfl ?_; refine st_q (by exact q_move rfl) rfl ?_; refine st_q (by exact Qt.cast (v' := .int .u8 ((cur : Nat) : Int)) (congrArg (Value.int .u8) (by omega)) (q_conv8 rfl)) rfl ?_; refine st_q (by exact q_indexAddr_arr (o' := pk.length) rfl rfl (by omega) (by omega) (by omega)) rfl ?_; refine st_e0 ?_; (refine e_store1l (l := (pk ++ List.replicate (10 - pk.length) 0).map (Value.int .u8)) (l' := (pk ++ [((cur : Nat) : Int)] ++ List.replicate (10 - (pk.length + 1)) 0).map (Value.int .u8)) rfl rfl rfl (by (repeat (first | exact List.Mem.head _ | apply List.Mem.tail))) (by rw [setL_eq]; exact pk_set pk _ (by omega)) (by (repeat (first | exact Pl.here | apply Pl.there))) (by simp; omega) (by first | (left; simp; done) | (right; omega)) ?_); refine l_nil ?_) | refine n_then ?_ | refine c_block ?_ | refine c_skip ?_ | refine n_block ?_ | refine c_exit ?_ | refine n_then_exit ?_ | refine n_block_eq ?_ | refine n_block_ne rfl ?_ | refine c_ret ?_ | refine n_then_ret ?_ | refine n_block_ret ?_ | refine c_cond_t rfl ?_ | refine c_cond_f rfl ?_ | refine r_succ ?_ )
    repeat (first | refine c_seq ?_ | (refine c_region (id := 7) ?_; refine st_q (by exact q_move rfl) rfl ?_; refine st_q (by exact q_move rfl) rfl ?_; refine st_q (by exact Qt.cast (v' := .int .i64 ((pk.length + 1 : Nat) : Int)) (congrArg (Value.int .i64) (by omega)) (q_add64 rfl rfl ⟨by omega, by omega⟩ rfl)) rfl ?_; refine st_q (by exact q_slice_arr (o' := 0) (len' := pk.length + 1) (cap' := 10) rfl rfl rfl (by omega) (by omega) (by omega) (by simp) (by omega) (by omega)) rfl ?_; refine st_e ?_; refine e_callX (OutL go b cap xs lg) (fun z : Option Addr × Nat => [.sl z.1 z.2 5 1 (((pS xs lg (leb x)).1).map (Value.int .u8)), .blk go (.cells #[.slice z.1 ((pS xs lg (leb x)).1).length z.2, .bool (pS xs lg (leb x)).2] 51 (0, 0)), .blk gp (.cells ((pk ++ [((cur : Nat) : Int)] ++ List.replicate (10 - (pk.length + 1)) 0).map (Value.int .u8)).toArray 89 (0, 0))]) rfl rfl (by kernel_rfl) rfl (by (repeat (first | exact Sp.nil | (apply Sp.cons; focus (repeat (first | exact Rm.here | apply Rm.there)))))) (fun w hC hm hA hL hap => by exact put_c go b cap xs lg hxb hxn ho w hA (some ⟨gp, 0, none⟩) (pk.length + 1) 10 (leb x) hlx2 (by omega) (leb_bd x) (by omega) (by rw [hlx]; exact SlE.blk (enc := Value.int .u8) hL (by (repeat (first | exact List.Mem.head _ | apply List.Mem.tail))) 0 (pk.length + 1) (pk_take pk _ _)) (fun g o e _ => by simp only [Option.some.injEq, Addr.mk.injEq] at e; intro hm; exact hap g hm (by simp [feet, Chunk.foot, e.1]))) (fun g hg => .inl hg) (fun z => by rfl) ?_; rintro ⟨b1, cap1⟩ m1 ho1 hn1 hm1; dsimp only at ho1 hn1 ⊢; refine l_nil ?_) | refine n_then ?_ | refine c_block ?_ | refine c_skip ?_ | refine n_block ?_ | refine c_exit ?_ | refine n_then_exit ?_ | refine n_block_eq ?_ | refine n_block_ne rfl ?_ | refine c_ret ?_ | refine n_then_ret ?_ | refine n_block_ret ?_ | refine c_cond_t rfl ?_ | refine c_cond_f rfl ?_ | refine r_succ ?_ )
    (first | apply r_ret (b1, cap1) | apply r_end (b1, cap1)); exact rfl; exact rfl; exact .nil; exact rfl; exact (by exact (by (repeat (first | exact List.Sublist.slnil | apply List.Sublist.cons_cons | exact List.Sublist.refl _ | apply List.Sublist.cons)))); exact hn1; exact ho1
  · have hc1 : 1 ≤ cur / 128 := by omega
    have hst := pow_step hcx
    have hn8 : pk.length + 1 ≤ 9 := pow_bound hst hx64 hc1
    repeat (first | refine c_seq ?_ | (refine c_region (id := 2) ?_; refine st_q (by exact q_move rfl) rfl ?_; refine st_q (by (first | exact Qt.cast (congrArg Value.bool (decide_eq_true (by omega))) (q_geq rfl rfl) | exact Qt.cast (congrArg Value.bool (decide_eq_false (by omega))) (q_geq rfl rfl))) rfl ?_; refine l_nil ?_) | (refine c_region (id := 3) ?_; refine st_q (by exact q_move rfl) rfl ?_; refine st_q (by exact Qt.cast (v' := .int .u64 ((cur / 128 : Nat) : Int)) (congrArg (Value.int .u64) (by rw [show (2 : Int) ^ (7 : Int).toNat = 128 by rfl]; omega)) (q_shr rfl rfl (by omega) (by show Int.toNat _ ≤ 64; omega))) rfl ?_; refine st_q (by exact q_assign rfl) rfl ?_; refine l_nil ?_) | (refine c_region (id := 4) ?_; refine st_q (by exact q_move rfl) rfl ?_; refine st_q (by exact q_move rfl) rfl ?_; refine st_q (by exact Qt.cast (v' := .int .u8 ((cur % 256 : Nat) : Int)) (congrArg (Value.int .u8) (by omega)) (q_conv8 rfl)) rfl ?_; refine st_q (by exact Qt.cast (v' := .int .u8 ((cur % 128 + 128 : Nat) : Int)) (congrArg (Value.int .u8) (or128 cur)) (q_or rfl rfl)) rfl ?_; refine st_q (by exact q_indexAddr_arr (o' := pk.length) rfl rfl (by omega) (by omega) (by omega)) rfl ?_; refine st_e0 ?_; (refine e_store1l (l := (pk ++ List.replicate (10 - pk.length) 0).map (Value.int .u8)) (l' := (pk ++ [((cur % 128 + 128 : Nat) : Int)] ++ List.replicate (10 - (pk.length + 1)) 0).map (Value.int .u8)) rfl rfl rfl (by (repeat (first | exact List.Mem.head _ | apply List.Mem.tail))) (by rw [setL_eq]; exact pk_set pk _ (by omega)) (by (repeat (first | exact Pl.here | apply Pl.there))) (by simp; omega) (by first | (left; simp; done) | (right; omega)) ?_); refine l_nil ?_) | (refine c_region (id := 5) ?_; refine st_q (by exact q_move rfl) rfl ?_; refine st_q (by exact Qt.cast (v' := .int .i64 ((pk.length + 1 : Nat) : Int)) (congrArg (Value.int .i64) (by omega)) (q_add64 rfl rfl ⟨by omega, by omega⟩ rfl)) rfl ?_; refine st_q (by exact q_assign rfl) rfl ?_; refine l_nil ?_) | refine n_then ?_ | refine c_block ?_ | refine c_skip ?_ | refine n_block ?_ | refine c_exit ?_ | refine n_then_exit ?_ | refine n_block_eq ?_ | refine n_block_ne rfl ?_ | refine c_ret ?_ | refine n_then_ret ?_ | refine n_block_ret ?_ | refine c_cond_t rfl ?_ | refine c_cond_f rfl ?_ | refine r_succ ?_ )
    refine c_round ⟨pk ++ [((cur % 128 + 128 : Nat) : Int)], cur / 128⟩ (.inl ⟨by dsimp only; rw [hlx0, leb_big hc, List.append_assoc]; rfl, by dsimp only; rw [List.length_append]; exact hst, hc1⟩) (by dsimp only; omega) (by dsimp only; rw [List.length_append]; exact ⟨rfl, rfl, rfl, rfl, trivial⟩) (by rfl) (by dsimp only; rw [List.length_append]; exact (by (repeat (first | exact List.Sublist.slnil | apply List.Sublist.cons_cons | exact List.Sublist.refl _ | apply List.Sublist.cons))))
end Go.Proofs.Ytlcckgimagllaaa
