/- Poly: products of words. -/
import Derived.Test.YtbkdopmnaopppaaPo1
namespace Go.Proofs.Ytbkdopmnaopppaa
open Go Go.RowKit
set_option linter.unusedVariables false
set_option linter.unusedSimpArgs false
theorem and32 (x : Nat) (h : x < 18446744073709551616) : bits .and .u64 (x : Int) 4294967295 = ((x % 4294967296 : Nat) : Int) := by
  have := u64_and_nat x 4294967295 h (by omega)
  rw [show (4294967295 : Nat) = 2 ^ 32 - 1 from rfl, Nat.and_two_pow_sub_one_eq_mod] at this
  exact this
theorem shr32 (x : Nat) : (x : Int) / 2 ^ (32 : Int).toNat = ((x / 4294967296 : Nat) : Int) := by
  show (x : Int) / 4294967296 = _
  omega
theorem mul_hi (x0 x1 y0 y1 : Nat) (hx0 : x0 < 4294967296) (hx1 : x1 < 4294967296) (hy0 : y0 < 4294967296) (hy1 : y1 < 4294967296) :
    x1 * y1 + (x1 * y0 + x0 * y0 / 4294967296) / 4294967296 + ((x1 * y0 + x0 * y0 / 4294967296) % 4294967296 + x0 * y1) / 4294967296 = (x1 * 4294967296 + x0) * (y1 * 4294967296 + y0) / 18446744073709551616 := by
  have e : (x1 * 4294967296 + x0) * (y1 * 4294967296 + y0) = x1 * y1 * 18446744073709551616 + (x1 * y0 + x0 * y1) * 4294967296 + x0 * y0 := by
    rw [Nat.add_mul, Nat.mul_add, Nat.mul_add]
    have a1 : x1 * 4294967296 * (y1 * 4294967296) = x1 * y1 * 18446744073709551616 := by rw [Nat.mul_mul_mul_comm]
    have a2 : x1 * 4294967296 * y0 = x1 * y0 * 4294967296 := by rw [Nat.mul_right_comm]
    have a3 : x0 * (y1 * 4294967296) = x0 * y1 * 4294967296 := by rw [Nat.mul_assoc]
    rw [a1, a2, a3]
    omega
  rw [e]
  generalize x1 * y1 = a
  generalize x1 * y0 = b
  generalize x0 * y1 = c
  generalize x0 * y0 = d
  omega
set_option maxRecDepth 100000 in
set_option maxHeartbeats 4000000 in
theorem mul64_c (x y : Nat) (hx : x < 18446744073709551616) (hy : y < 18446744073709551616) (w : World) :
    CA Try.prog 49 [.int .u64 x, .int .u64 y] w (RV (.tuple #[.int .u64 ((x * y / 18446744073709551616 : Nat) : Int), .int .u64 ((x * y % 18446744073709551616 : Nat) : Int)]) w) := by
  obtain ⟨x0, hx0⟩ : ∃ z, z = x % 4294967296 := ⟨_, rfl⟩
  obtain ⟨x1, hx1⟩ : ∃ z, z = x / 4294967296 := ⟨_, rfl⟩
  obtain ⟨y0, hy0⟩ : ∃ z, z = y % 4294967296 := ⟨_, rfl⟩
  obtain ⟨y1, hy1⟩ : ∃ z, z = y / 4294967296 := ⟨_, rfl⟩
  have b00 : x0 * y0 ≤ 4294967295 * 4294967295 := Nat.mul_le_mul (by omega) (by omega)
  have b10 : x1 * y0 ≤ 4294967295 * 4294967295 := Nat.mul_le_mul (by omega) (by omega)
  have b01 : x0 * y1 ≤ 4294967295 * 4294967295 := Nat.mul_le_mul (by omega) (by omega)
  have b11 : x1 * y1 ≤ 4294967295 * 4294967295 := Nat.mul_le_mul (by omega) (by omega)
  obtain ⟨tt, htt⟩ : ∃ z, z = x1 * y0 + x0 * y0 / 4294967296 := ⟨_, rfl⟩
  obtain ⟨ww, hww⟩ : ∃ z, z = tt % 4294967296 + x0 * y1 := ⟨_, rfl⟩
  have hhi : x1 * y1 + tt / 4294967296 + ww / 4294967296 = x * y / 18446744073709551616 := by
    rw [hww, htt, mul_hi x0 x1 y0 y1 (by omega) (by omega) (by omega) (by omega), show x1 * 4294967296 + x0 = x by omega, show y1 * 4294967296 + y0 = y by omega]
  have hlt : x * y / 18446744073709551616 < 18446744073709551616 := by
    have := Nat.mul_le_mul (show x ≤ 18446744073709551615 by omega) (show y ≤ 18446744073709551615 by omega)
    omega
  refine enter (L := []) (X := []) Try.func49 rfl Try.ntmps49 rfl rfl (Has.nil _) ?_
  repeat (first | refine c_seq ?_ | (refine c_region (id := 0) ?_; refine st_q (by exact q_assign rfl) rfl ?_; refine st_q (by exact q_assign rfl) rfl ?_; refine l_nil ?_) | (refine c_region (id := 1) ?_; refine st_q (by exact q_move rfl) rfl ?_; refine st_q (by exact Qt.cast (v' := .int .u64 ((x % 4294967296 : Nat) : Int)) (congrArg (Value.int .u64) (and32 x hx)) (q_and rfl rfl)) rfl ?_; refine st_q (by exact q_assign rfl) rfl ?_; refine l_nil ?_) | (refine c_region (id := 2) ?_; refine st_q (by exact q_move rfl) rfl ?_; refine st_q (by exact Qt.cast (v' := .int .u64 ((x / 4294967296 : Nat) : Int)) (congrArg (Value.int .u64) (shr32 x)) (q_shr rfl rfl (by omega) (by show _ ≤ 64; decide))) rfl ?_; refine st_q (by exact q_assign rfl) rfl ?_; refine l_nil ?_) | (refine c_region (id := 3) ?_; refine st_q (by exact q_move rfl) rfl ?_; refine st_q (by exact Qt.cast (v' := .int .u64 ((y % 4294967296 : Nat) : Int)) (congrArg (Value.int .u64) (and32 y hy)) (q_and rfl rfl)) rfl ?_; refine st_q (by exact q_assign rfl) rfl ?_; refine l_nil ?_) | (refine c_region (id := 4) ?_; refine st_q (by exact q_move rfl) rfl ?_; refine st_q (by exact Qt.cast (v' := .int .u64 ((y / 4294967296 : Nat) : Int)) (congrArg (Value.int .u64) (shr32 y)) (q_shr rfl rfl (by omega) (by show _ ≤ 64; decide))) rfl ?_; refine st_q (by exact q_assign rfl) rfl ?_; refine l_nil ?_) | refine n_then ?_ | refine c_block ?_ | refine c_skip ?_ | refine n_block ?_ | refine c_exit ?_ | refine n_then_exit ?_ | refine n_block_eq ?_ | refine n_block_ne rfl ?_ | refine c_ret ?_ | refine n_then_ret ?_ | refine n_block_ret ?_ | refine c_cond_t rfl ?_ | refine c_cond_f rfl ?_ | refine r_succ ?_ )
  rw [← hx0, ← hx1, ← hy0, ← hy1]
  repeat (first | refine c_seq ?_ | (refine c_region (id := 5) ?_; refine st_q (by exact q_move rfl) rfl ?_; refine st_q (by exact q_move rfl) rfl ?_; refine st_q (by exact Qt.cast (v' := .int .u64 ((x0 * y0 : Nat) : Int)) (congrArg (Value.int .u64) (by omega)) (q_mulU rfl rfl)) rfl ?_; refine st_q (by exact q_assign rfl) rfl ?_; refine l_nil ?_) | (refine c_region (id := 6) ?_; refine st_q (by exact q_move rfl) rfl ?_; refine st_q (by exact q_move rfl) rfl ?_; refine st_q (by exact Qt.cast (v' := .int .u64 ((x1 * y0 : Nat) : Int)) (congrArg (Value.int .u64) (by omega)) (q_mulU rfl rfl)) rfl ?_; refine st_q (by exact q_move rfl) rfl ?_; refine st_q (by exact Qt.cast (v' := .int .u64 ((x0 * y0 / 4294967296 : Nat) : Int)) (congrArg (Value.int .u64) (shr32 _)) (q_shr rfl rfl (by omega) (by show _ ≤ 64; decide))) rfl ?_; refine st_q (by exact Qt.cast (v' := .int .u64 ((tt : Nat) : Int)) (congrArg (Value.int .u64) (by omega)) (q_addU rfl rfl)) rfl ?_; refine st_q (by exact q_assign rfl) rfl ?_; refine l_nil ?_) | (refine c_region (id := 7) ?_; refine st_q (by exact q_move rfl) rfl ?_; refine st_q (by exact Qt.cast (v' := .int .u64 ((tt % 4294967296 : Nat) : Int)) (congrArg (Value.int .u64) (and32 tt (by omega))) (q_and rfl rfl)) rfl ?_; refine st_q (by exact q_assign rfl) rfl ?_; refine l_nil ?_) | (refine c_region (id := 8) ?_; refine st_q (by exact q_move rfl) rfl ?_; refine st_q (by exact Qt.cast (v' := .int .u64 ((tt / 4294967296 : Nat) : Int)) (congrArg (Value.int .u64) (shr32 _)) (q_shr rfl rfl (by omega) (by show _ ≤ 64; decide))) rfl ?_; refine st_q (by exact q_assign rfl) rfl ?_; refine l_nil ?_) | (refine c_region (id := 9) ?_; refine st_q (by exact q_move rfl) rfl ?_; refine st_q (by exact q_move rfl) rfl ?_; refine st_q (by exact q_move rfl) rfl ?_; refine st_q (by exact Qt.cast (v' := .int .u64 ((x0 * y1 : Nat) : Int)) (congrArg (Value.int .u64) (by omega)) (q_mulU rfl rfl)) rfl ?_; refine st_q (by exact Qt.cast (v' := .int .u64 ((ww : Nat) : Int)) (congrArg (Value.int .u64) (by omega)) (q_addU rfl rfl)) rfl ?_; refine st_q (by exact q_assign rfl) rfl ?_; refine l_nil ?_) | (refine c_region (id := 10) ?_; refine st_q (by exact q_move rfl) rfl ?_; refine st_q (by exact q_move rfl) rfl ?_; refine st_q (by exact Qt.cast (v' := .int .u64 ((x1 * y1 : Nat) : Int)) (congrArg (Value.int .u64) (by omega)) (q_mulU rfl rfl)) rfl ?_; refine st_q (by exact q_move rfl) rfl ?_; refine st_q (by exact Qt.cast (v' := .int .u64 ((x1 * y1 + tt / 4294967296 : Nat) : Int)) (congrArg (Value.int .u64) (by omega)) (q_addU rfl rfl)) rfl ?_; refine st_q (by exact q_move rfl) rfl ?_; refine st_q (by exact Qt.cast (v' := .int .u64 ((ww / 4294967296 : Nat) : Int)) (congrArg (Value.int .u64) (shr32 _)) (q_shr rfl rfl (by omega) (by show _ ≤ 64; decide))) rfl ?_; refine st_q (by exact Qt.cast (v' := .int .u64 ((x * y / 18446744073709551616 : Nat) : Int)) (congrArg (Value.int .u64) (by rw [← hhi]; omega)) (q_addU rfl rfl)) rfl ?_; refine st_q (by exact q_assign rfl) rfl ?_; refine l_nil ?_) | (refine c_region (id := 11) ?_; refine st_q (by exact q_move rfl) rfl ?_; refine st_q (by exact q_move rfl) rfl ?_; refine st_q (by exact Qt.cast (v' := .int .u64 ((x * y % 18446744073709551616 : Nat) : Int)) (congrArg (Value.int .u64) (by rw [Int.natCast_emod, Int.natCast_mul]; rfl)) (q_mulU rfl rfl)) rfl ?_; refine st_q (by exact q_assign rfl) rfl ?_; refine l_nil ?_) | refine n_then ?_ | refine c_block ?_ | refine c_skip ?_ | refine n_block ?_ | refine c_exit ?_ | refine n_then_exit ?_ | refine n_block_eq ?_ | refine n_block_ne rfl ?_ | refine c_ret ?_ | refine n_then_ret ?_ | refine n_block_ret ?_ | refine c_cond_t rfl ?_ | refine c_cond_f rfl ?_ | refine r_succ ?_ )
  (first | apply r_ret () | apply r_end ()); exact rfl; exact rfl; exact (.tmp rfl (.tmp rfl .nil)); exact rfl; exact (List.nil_sublist _); exact new_nil; exact trivial
end Go.Proofs.Ytbkdopmnaopppaa
