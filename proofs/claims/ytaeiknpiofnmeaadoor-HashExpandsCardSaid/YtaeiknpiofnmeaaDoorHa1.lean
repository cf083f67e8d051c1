/- SHA-256: rotations, the plan. -/
import Derived.Test.YtaeiknpiofnmeaaDoorTy
import Derived.Test.YtaeiknpiofnmeaaDoorSlb
import Derived.Test.YtaeiknpiofnmeaaDoorHm
import Derived.Laws.BitsAllLaws
namespace Go.Proofs.YtaeiknpiofnmeaaDoor
open Go Go.RowKit
set_option linter.unusedVariables false
set_option linter.unusedSimpArgs false
def IW (x : Nat) : Value := .int .u32 (x : Int)
theorem shr_nat (x n : Nat) : (x : Int) / 2 ^ ((n : Int)).toNat = ((x / 2 ^ n : Nat) : Int) := by
  rw [Int.toNat_natCast, Int.natCast_ediv, Int.natCast_pow]; rfl
theorem shl_nat (x n : Nat) : (x : Int) * 2 ^ ((n : Int)).toNat % 4294967296 = ((x * 2 ^ n % 4294967296 : Nat) : Int) := by
  rw [Int.toNat_natCast, Int.natCast_emod, Int.natCast_mul, Int.natCast_pow]; rfl
theorem neg_mask (n : Nat) (h0 : 0 < n) (h1 : n < 32) : bits .and .u64 (-(n : Int) % 18446744073709551616) 31 = ((32 - n : Nat) : Int) := by
  have e : -(n : Int) % 18446744073709551616 = ((18446744073709551616 - n : Nat) : Int) := by omega
  rw [e, show (31 : Int) = ((31 : Nat) : Int) from rfl, u64_and_nat _ _ (by omega) (by omega), nat_mask5]
  congr 1
  omega
set_option maxRecDepth 100000 in
set_option maxHeartbeats 4000000 in
theorem rot_c (x n : Nat) (h0 : 0 < n) (h1 : n < 32) (hx : x < 4294967296) (w : World) :
    CA Tryd.prog 29 [.int .u32 (x : Int), .int .i64 (-(n : Int))] w (RV (.int .u32 ((rr n x : Nat) : Int)) w) := by
  have hr : x / 2 ^ n < 4294967296 := Nat.lt_of_le_of_lt (Nat.div_le_self _ _) hx
  have hl : x * 2 ^ (32 - n) % 4294967296 < 4294967296 := Nat.mod_lt _ (by decide)
  refine enter (L := []) (X := []) Tryd.func29 rfl Tryd.ntmps29 rfl rfl (Has.nil _) ?_
  repeat (first | refine c_seq ?_ | (refine c_region (id := 0) ?_; refine st_q (by exact q_assign rfl) rfl ?_; refine l_nil ?_) | (refine c_region (id := 1) ?_; refine st_q (by exact q_move rfl) rfl ?_; refine st_q (by exact q_convU rfl) rfl ?_; refine st_q (by exact Qt.cast (v' := .int .u64 ((32 - n : Nat) : Int)) (congrArg (Value.int .u64) (neg_mask n h0 h1)) (q_and rfl rfl)) rfl ?_; refine st_q (by exact q_assign rfl) rfl ?_; refine l_nil ?_) | (refine c_region (id := 2) ?_; refine st_q (by exact q_move rfl) rfl ?_; refine st_q (by exact q_move rfl) rfl ?_; refine st_q (by exact Qt.cast (v' := .int .u32 ((x * 2 ^ (32 - n) % 4294967296 : Nat) : Int)) (congrArg (Value.int .u32) (by first | exact shl_nat x (32 - n) | (simpa using shl_nat x (32 - n)))) (q_shl32 rfl rfl (by omega) (by omega))) rfl ?_; refine st_q (by exact q_move rfl) rfl ?_; refine st_q (by exact q_move rfl) rfl ?_; refine st_q (by exact Qt.cast (v' := .int .u64 ((n : Nat) : Int)) (congrArg (Value.int .u64) (by omega)) (q_subU rfl rfl)) rfl ?_; refine st_q (by exact Qt.cast (v' := .int .u32 ((x / 2 ^ n : Nat) : Int)) (congrArg (Value.int .u32) (shr_nat x n)) (q_shr rfl rfl (by omega) (by show Int.toNat _ ≤ 32; omega))) rfl ?_; refine st_q (by exact Qt.cast (congrArg (Value.int .u32) (u32_or_nat (x * 2 ^ (32 - n) % 4294967296) (x / 2 ^ n) (by assumption) (by assumption))) (q_or rfl rfl)) rfl ?_; refine st_q (by exact q_assign rfl) rfl ?_; refine l_nil ?_) | refine n_then ?_ | refine c_block ?_ | refine c_skip ?_ | refine n_block ?_ | refine c_exit ?_ | refine n_then_exit ?_ | refine n_block_eq ?_ | refine n_block_ne rfl ?_ | refine c_ret ?_ | refine n_then_ret ?_ | refine n_block_ret ?_ | refine c_cond_t rfl ?_ | refine c_cond_f rfl ?_ | refine r_succ ?_ )
  (first | apply r_ret () | apply r_end ()); exact rfl; exact rfl; exact (.tmp rfl .nil); exact (congrArg (fun z : Nat => Value.int .u32 (z : Int)) (rr_or (by omega) hx)); exact (List.nil_sublist _); exact new_nil; exact trivial
set_option maxRecDepth 100000 in
set_option maxHeartbeats 4000000 in
theorem turn_c (x n : Nat) (h1 : n ≤ 32) (hx : x < 4294967296) (w : World) :
    CA Tryd.prog 21 [.int .u32 (x : Int), .int .i64 (n : Int)] w (RV (.int .u32 ((rr n x : Nat) : Int)) w) := by
  refine enter (L := []) (X := []) Tryd.func21 rfl Tryd.ntmps21 rfl rfl (Has.nil _) ?_
  repeat (first | refine c_seq ?_ | (refine c_region (id := 0) ?_; refine st_q (by exact q_assign rfl) rfl ?_; refine l_nil ?_) | (refine c_region (id := 1) ?_; refine st_q (by exact q_assign rfl) rfl ?_; refine l_nil ?_) | refine n_then ?_ | refine c_block ?_ | refine c_skip ?_ | refine n_block ?_ | refine c_exit ?_ | refine n_then_exit ?_ | refine n_block_eq ?_ | refine n_block_ne rfl ?_ | refine c_ret ?_ | refine n_then_ret ?_ | refine n_block_ret ?_ | refine c_cond_t rfl ?_ | refine c_cond_f rfl ?_ | refine r_succ ?_ )
  refine c_loop (γ := Nat) (fun i => [(5, .int .i64 i), (0, .int .u32 ((rr i x : Nat) : Int)), (1, .int .i64 n)]) (fun _ => w.heap.size) (fun _ => []) (fun i => i ≤ n) (fun i => n - i) 0 (by omega) (by exact ⟨rfl, by rw [rr_0]; rfl, rfl, trivial⟩) rfl (by (repeat (first | exact List.Sublist.slnil | apply List.Sublist.cons_cons | apply List.Sublist.cons))) ?_
  intro i hi
  have hl := rr_lt (n := i) (by omega) hx
  obtain ⟨y, hy⟩ : ∃ y, y = rr i x := ⟨_, rfl⟩
  rw [← hy] at hl ⊢
  repeat (first | refine c_seq ?_ | (refine c_region (id := 2) ?_; refine st_q (by exact q_move rfl) rfl ?_; refine st_q (by exact q_move rfl) rfl ?_; refine st_q (by exact q_lss rfl rfl) rfl ?_; refine l_nil ?_) | refine n_then ?_ | refine c_block ?_ | refine c_skip ?_ | refine n_block ?_ | refine c_exit ?_ | refine n_then_exit ?_ | refine n_block_eq ?_ | refine n_block_ne rfl ?_ | refine c_ret ?_ | refine n_then_ret ?_ | refine n_block_ret ?_ | refine c_cond_t rfl ?_ | refine c_cond_f rfl ?_ | refine r_succ ?_ )
  refine c_cond_dec rfl (fun h => ?_) (fun h => ?_)
  · have hs := rr_succ (n := i) (x := x) (by omega)
    rw [← hy] at hs
    repeat (first | refine c_seq ?_ | (refine c_region (id := 3) ?_; refine st_q (by exact q_move rfl) rfl ?_; refine st_q (by exact q_add64 rfl rfl ⟨by omega, by omega⟩ (by first | (simp only [Nat.zero_add, Nat.add_zero, Nat.mul_one, Nat.one_mul, Int.toNat_natCast, Int.reduceToNat, Nat.reduceMul, Nat.reduceAdd, Nat.reduceSub, Int.reduceAdd, Int.reduceSub, Int.reduceMul, Nat.sub_zero, Int.toNat_zero, Int.zero_add, Int.add_zero, Int.sub_zero, Int.mul_one, Int.one_mul]; try exact rfl) | exact rfl)) rfl ?_; refine st_q (by exact q_assign rfl) rfl ?_; refine l_nil ?_) | (refine c_region (id := 4) ?_; refine st_q (by exact q_move rfl) rfl ?_; refine st_q (by exact Qt.cast (v' := .int .u32 ((y / 2 : Nat) : Int)) (congrArg (Value.int .u32) (by omega)) (q_quo rfl rfl (by omega) (by omega) (by simp only [IntKind.wrap_u32']; omega))) rfl ?_; refine st_q (by exact q_move rfl) rfl ?_; refine st_q (by exact Qt.cast (v' := .int .u32 ((y % 2 : Nat) : Int)) (congrArg (Value.int .u32) (by omega)) (q_rem rfl rfl (by omega) (by omega))) rfl ?_; refine st_q (by exact Qt.cast (v' := .int .u32 ((y % 2 * 2147483648 : Nat) : Int)) (congrArg (Value.int .u32) (by omega)) (q_mul32 rfl rfl)) rfl ?_; refine st_q (by exact Qt.cast (v' := .int .u32 ((y / 2 + y % 2 * 2147483648 : Nat) : Int)) (congrArg (Value.int .u32) (by omega)) (q_add32 rfl rfl)) rfl ?_; refine st_q (by exact q_assign rfl) rfl ?_; refine l_nil ?_) | refine n_then ?_ | refine c_block ?_ | refine c_skip ?_ | refine n_block ?_ | refine c_exit ?_ | refine n_then_exit ?_ | refine n_block_eq ?_ | refine n_block_ne rfl ?_ | refine c_ret ?_ | refine n_then_ret ?_ | refine n_block_ret ?_ | refine c_cond_t rfl ?_ | refine c_cond_f rfl ?_ | refine r_succ ?_ )
    refine c_round (i + 1) (by omega) (by omega) (by exact ⟨rfl, by rw [← hs]; rfl, rfl, trivial⟩) (by rfl) (by (repeat (first | exact List.Sublist.slnil | apply List.Sublist.cons_cons | apply List.Sublist.cons)))
  · obtain rfl : i = n := by omega
    repeat (first | refine c_seq ?_ | (refine c_region (id := 5) ?_; refine st_q (by exact q_move rfl) rfl ?_; refine st_q (by exact q_assign rfl) rfl ?_; refine l_nil ?_) | refine n_then ?_ | refine c_block ?_ | refine c_skip ?_ | refine n_block ?_ | refine c_exit ?_ | refine n_then_exit ?_ | refine n_block_eq ?_ | refine n_block_ne rfl ?_ | refine c_ret ?_ | refine n_then_ret ?_ | refine n_block_ret ?_ | refine c_cond_t rfl ?_ | refine c_cond_f rfl ?_ | refine r_succ ?_ )
    rw [hy]
    (first | apply r_ret () | apply r_end ()); exact rfl; exact rfl; exact (.tmp rfl .nil); exact rfl; exact (List.nil_sublist _); exact new_nil; exact trivial
end Go.Proofs.YtaeiknpiofnmeaaDoor
