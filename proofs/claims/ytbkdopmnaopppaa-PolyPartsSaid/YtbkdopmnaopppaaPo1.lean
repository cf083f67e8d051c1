/- Poly: words, Equal. -/
import Derived.Test.YtbkdopmnaopppaaTy
import Derived.Test.YtbkdopmnaopppaaSlb
import Derived.Laws.BitsAllLaws
namespace Go.Proofs.Ytbkdopmnaopppaa
open Go Go.RowKit
set_option linter.unusedVariables false
set_option linter.unusedSimpArgs false
theorem or_mul' (a b i m : Nat) (hm : m = 2 ^ i) (h : a < m) : a ||| (b * m) = a + b * m := by
  subst hm
  rw [Nat.or_comm, ← Nat.shiftLeft_eq, ← Nat.shiftLeft_add_eq_or_of_lt h, Nat.shiftLeft_eq, Nat.add_comm]
def le64 (b0 b1 b2 b3 b4 b5 b6 b7 : Int) : Int := b0 + b1 * 256 + b2 * 65536 + b3 * 16777216 + b4 * 4294967296 + b5 * 1099511627776 + b6 * 281474976710656 + b7 * 72057594037927936
theorem or64 {b0 b1 b2 b3 b4 b5 b6 b7 : Int} (q0 : 0 ≤ b0 ∧ b0 ≤ 255) (q1 : 0 ≤ b1 ∧ b1 ≤ 255) (q2 : 0 ≤ b2 ∧ b2 ≤ 255) (q3 : 0 ≤ b3 ∧ b3 ≤ 255) (q4 : 0 ≤ b4 ∧ b4 ≤ 255) (q5 : 0 ≤ b5 ∧ b5 ≤ 255) (q6 : 0 ≤ b6 ∧ b6 ≤ 255) (q7 : 0 ≤ b7 ∧ b7 ≤ 255) : (bits .or .u64 (bits .or .u64 (bits .or .u64 (bits .or .u64 (bits .or .u64 (bits .or .u64 (bits .or .u64 (bits .or .u64 0 (b0 % 18446744073709551616 * 2 ^ (0 : Int).toNat % 18446744073709551616)) (b1 % 18446744073709551616 * 2 ^ (8 : Int).toNat % 18446744073709551616)) (b2 % 18446744073709551616 * 2 ^ (16 : Int).toNat % 18446744073709551616)) (b3 % 18446744073709551616 * 2 ^ (24 : Int).toNat % 18446744073709551616)) (b4 % 18446744073709551616 * 2 ^ (32 : Int).toNat % 18446744073709551616)) (b5 % 18446744073709551616 * 2 ^ (40 : Int).toNat % 18446744073709551616)) (b6 % 18446744073709551616 * 2 ^ (48 : Int).toNat % 18446744073709551616)) (b7 % 18446744073709551616 * 2 ^ (56 : Int).toNat % 18446744073709551616)) = le64 b0 b1 b2 b3 b4 b5 b6 b7 := by
  obtain ⟨n0, rfl⟩ := Int.eq_ofNat_of_zero_le q0.1
  obtain ⟨n1, rfl⟩ := Int.eq_ofNat_of_zero_le q1.1
  obtain ⟨n2, rfl⟩ := Int.eq_ofNat_of_zero_le q2.1
  obtain ⟨n3, rfl⟩ := Int.eq_ofNat_of_zero_le q3.1
  obtain ⟨n4, rfl⟩ := Int.eq_ofNat_of_zero_le q4.1
  obtain ⟨n5, rfl⟩ := Int.eq_ofNat_of_zero_le q5.1
  obtain ⟨n6, rfl⟩ := Int.eq_ofNat_of_zero_le q6.1
  obtain ⟨n7, rfl⟩ := Int.eq_ofNat_of_zero_le q7.1
  have e0 : ((n0 : Int) % 18446744073709551616 * 2 ^ (0 : Int).toNat % 18446744073709551616) = ((n0 * 1 : Nat) : Int) := by show ((n0 : Int) % 18446744073709551616 * 1 % 18446744073709551616) = _; omega
  have e1 : ((n1 : Int) % 18446744073709551616 * 2 ^ (8 : Int).toNat % 18446744073709551616) = ((n1 * 256 : Nat) : Int) := by show ((n1 : Int) % 18446744073709551616 * 256 % 18446744073709551616) = _; omega
  have e2 : ((n2 : Int) % 18446744073709551616 * 2 ^ (16 : Int).toNat % 18446744073709551616) = ((n2 * 65536 : Nat) : Int) := by show ((n2 : Int) % 18446744073709551616 * 65536 % 18446744073709551616) = _; omega
  have e3 : ((n3 : Int) % 18446744073709551616 * 2 ^ (24 : Int).toNat % 18446744073709551616) = ((n3 * 16777216 : Nat) : Int) := by show ((n3 : Int) % 18446744073709551616 * 16777216 % 18446744073709551616) = _; omega
  have e4 : ((n4 : Int) % 18446744073709551616 * 2 ^ (32 : Int).toNat % 18446744073709551616) = ((n4 * 4294967296 : Nat) : Int) := by show ((n4 : Int) % 18446744073709551616 * 4294967296 % 18446744073709551616) = _; omega
  have e5 : ((n5 : Int) % 18446744073709551616 * 2 ^ (40 : Int).toNat % 18446744073709551616) = ((n5 * 1099511627776 : Nat) : Int) := by show ((n5 : Int) % 18446744073709551616 * 1099511627776 % 18446744073709551616) = _; omega
  have e6 : ((n6 : Int) % 18446744073709551616 * 2 ^ (48 : Int).toNat % 18446744073709551616) = ((n6 * 281474976710656 : Nat) : Int) := by show ((n6 : Int) % 18446744073709551616 * 281474976710656 % 18446744073709551616) = _; omega
  have e7 : ((n7 : Int) % 18446744073709551616 * 2 ^ (56 : Int).toNat % 18446744073709551616) = ((n7 * 72057594037927936 : Nat) : Int) := by show ((n7 : Int) % 18446744073709551616 * 72057594037927936 % 18446744073709551616) = _; omega
  rw [e0, e1, e2, e3, e4, e5, e6, e7]
  rw [show (0 : Int) = ((0 : Nat) : Int) from rfl, u64_or_nat 0 (n0 * 1) (by omega) (by omega), Nat.zero_or]
  rw [u64_or_nat _ (n1 * 256) (by omega) (by omega), or_mul' _ n1 8 256 (by decide) (by omega)]
  rw [u64_or_nat _ (n2 * 65536) (by omega) (by omega), or_mul' _ n2 16 65536 (by decide) (by omega)]
  rw [u64_or_nat _ (n3 * 16777216) (by omega) (by omega), or_mul' _ n3 24 16777216 (by decide) (by omega)]
  rw [u64_or_nat _ (n4 * 4294967296) (by omega) (by omega), or_mul' _ n4 32 4294967296 (by decide) (by omega)]
  rw [u64_or_nat _ (n5 * 1099511627776) (by omega) (by omega), or_mul' _ n5 40 1099511627776 (by decide) (by omega)]
  rw [u64_or_nat _ (n6 * 281474976710656) (by omega) (by omega), or_mul' _ n6 48 281474976710656 (by decide) (by omega)]
  rw [u64_or_nat _ (n7 * 72057594037927936) (by omega) (by omega), or_mul' _ n7 56 72057594037927936 (by decide) (by omega)]
  unfold le64
  omega
set_option maxRecDepth 100000 in
set_option maxHeartbeats 4000000 in
theorem word_c {g o len cap : Nat} (hl : 8 ≤ len) {b0 b1 b2 b3 b4 b5 b6 b7 : Int} (q0 : 0 ≤ b0 ∧ b0 ≤ 255) (q1 : 0 ≤ b1 ∧ b1 ≤ 255) (q2 : 0 ≤ b2 ∧ b2 ≤ 255) (q3 : 0 ≤ b3 ∧ b3 ≤ 255) (q4 : 0 ≤ b4 ∧ b4 ≤ 255) (q5 : 0 ≤ b5 ∧ b5 ≤ 255) (q6 : 0 ≤ b6 ∧ b6 ≤ 255) (q7 : 0 ≤ b7 ∧ b7 ≤ 255) (w : World) (hO : Old w g o [.int .u8 b0, .int .u8 b1, .int .u8 b2, .int .u8 b3, .int .u8 b4, .int .u8 b5, .int .u8 b6, .int .u8 b7]) :
    CA Try.prog 44 [.slice (some ⟨g, o, none⟩) len cap] w (RV (.int .u64 (le64 b0 b1 b2 b3 b4 b5 b6 b7)) w) := by
  refine enter (L := []) (X := []) Try.func44 rfl Try.ntmps44 rfl rfl (Has.nil _) ?_
  repeat (first | refine c_rounds 9 ?_ | refine c_seq ?_ | (refine c_region (id := 0) ?_; refine st_q (by exact q_assign rfl) rfl ?_; refine l_nil ?_) | (refine c_region (id := 1) ?_; refine st_q (by exact q_assign rfl) rfl ?_; refine l_nil ?_) | (refine c_region (id := 2) ?_; refine st_q (by exact q_move rfl) rfl ?_; refine l_nil ?_) | (refine c_region (id := 3) ?_; refine st_q (by exact q_lss rfl rfl) rfl ?_; refine l_nil ?_) | (refine c_region (id := 4) ?_; refine st_q (by exact q_move rfl) rfl ?_; refine st_q (by exact q_assign rfl) rfl ?_; refine l_nil ?_) | (refine c_region (id := 5) ?_; refine st_q (by exact q_move rfl) rfl ?_; refine st_q (by exact q_move rfl) rfl ?_; refine st_q (by exact q_move rfl) rfl ?_; refine st_q (by exact q_indexAddr_sl rfl rfl (by omega) (by omega) (by first | (simp only [Nat.zero_add, Nat.add_zero, Nat.mul_one, Nat.one_mul, Int.toNat_natCast, Int.reduceToNat, Nat.reduceMul, Nat.reduceAdd, Nat.reduceSub, Int.reduceAdd, Int.reduceSub, Int.reduceMul, Nat.sub_zero, Int.toNat_zero, Int.zero_add, Int.add_zero, Int.sub_zero, Int.mul_one, Int.one_mul]; try exact rfl) | exact rfl)) rfl ?_; refine st_q (by exact q_load rfl (by (first | exact Rd.blkn (by (repeat (first | exact List.Mem.head _ | apply List.Mem.tail))) (by first | rfl | assumption) | exact Rd.sln (by (repeat (first | exact List.Mem.head _ | apply List.Mem.tail))) (by first | rfl | assumption) | exact Rd.oldn (by assumption) (by first | rfl | assumption) (by simp) | exact Rd.old0 (by assumption) (by simp)))) rfl ?_; refine st_q (by exact q_convU rfl) rfl ?_; refine st_q (by exact q_move rfl) rfl ?_; refine st_q (by exact q_mul64 rfl rfl ⟨by omega, by omega⟩ (by first | (simp only [Nat.zero_add, Nat.add_zero, Nat.mul_one, Nat.one_mul, Int.toNat_natCast, Int.reduceToNat, Nat.reduceMul, Nat.reduceAdd, Nat.reduceSub, Int.reduceAdd, Int.reduceSub, Int.reduceMul, Nat.sub_zero, Int.toNat_zero, Int.zero_add, Int.add_zero, Int.sub_zero, Int.mul_one, Int.one_mul]; try exact rfl) | exact rfl)) rfl ?_; refine st_q (by exact q_shlU rfl rfl (by omega) (by omega)) rfl ?_; refine st_q (by exact q_or rfl rfl) rfl ?_; refine st_q (by exact q_assign rfl) rfl ?_; refine l_nil ?_) | (refine c_region (id := 6) ?_; refine st_q (by exact q_add64 rfl rfl ⟨by omega, by omega⟩ (by first | (simp only [Nat.zero_add, Nat.add_zero, Nat.mul_one, Nat.one_mul, Int.toNat_natCast, Int.reduceToNat, Nat.reduceMul, Nat.reduceAdd, Nat.reduceSub, Int.reduceAdd, Int.reduceSub, Int.reduceMul, Nat.sub_zero, Int.toNat_zero, Int.zero_add, Int.add_zero, Int.sub_zero, Int.mul_one, Int.one_mul]; try exact rfl) | exact rfl)) rfl ?_; refine st_q (by exact q_move rfl) rfl ?_; refine l_nil ?_) | (refine c_region (id := 7) ?_; refine st_q (by exact q_move rfl) rfl ?_; refine st_q (by exact q_assign rfl) rfl ?_; refine l_nil ?_) | refine n_then ?_ | refine c_block ?_ | refine c_skip ?_ | refine n_block ?_ | refine c_exit ?_ | refine n_then_exit ?_ | refine n_block_eq ?_ | refine n_block_ne rfl ?_ | refine c_ret ?_ | refine n_then_ret ?_ | refine n_block_ret ?_ | refine c_cond_t rfl ?_ | refine c_cond_f rfl ?_ | refine r_succ ?_ )
  (first | apply r_ret () | apply r_end ()); exact rfl; exact rfl; exact (.tmp rfl .nil); exact (congrArg (Value.int .u64) (or64 q0 q1 q2 q3 q4 q5 q6 q7)); exact (List.nil_sublist _); exact new_nil; exact trivial

theorem or8_zero {a b : Int} (ha : 0 ≤ a ∧ a ≤ 255) (hb : 0 ≤ b ∧ b ≤ 255) : (bits .or .u8 a b = 0 ↔ a = 0 ∧ b = 0) ∧ 0 ≤ bits .or .u8 a b ∧ bits .or .u8 a b ≤ 255 := by
  obtain ⟨n, rfl⟩ := Int.eq_ofNat_of_zero_le ha.1
  obtain ⟨m, rfl⟩ := Int.eq_ofNat_of_zero_le hb.1
  have h1 : n < 256 := by omega
  have h2 : m < 256 := by omega
  have h3 : n ||| m < 256 := Nat.or_lt_two_pow (n := 8) h1 h2
  rw [u8_or_nat n m h1 h2]
  refine ⟨?_, by omega⟩
  rw [show (((n ||| m : Nat) : Int) = 0 ↔ (n ||| m) = 0) by omega, Nat.or_eq_zero_iff]
  omega
theorem xor8_zero {a b : Int} (ha : 0 ≤ a ∧ a ≤ 255) (hb : 0 ≤ b ∧ b ≤ 255) : (bits .xor .u8 a b = 0 ↔ a = b) ∧ 0 ≤ bits .xor .u8 a b ∧ bits .xor .u8 a b ≤ 255 := by
  obtain ⟨n, rfl⟩ := Int.eq_ofNat_of_zero_le ha.1
  obtain ⟨m, rfl⟩ := Int.eq_ofNat_of_zero_le hb.1
  have h1 : n < 256 := by omega
  have h2 : m < 256 := by omega
  have h3 : n ^^^ m < 256 := Nat.xor_lt_two_pow (n := 8) h1 h2
  rw [u8_xor_nat n m h1 h2]
  refine ⟨?_, by omega⟩
  rw [show (((n ^^^ m : Nat) : Int) = 0 ↔ (n ^^^ m) = 0) by omega]
  constructor
  · intro h
    have h4 := congrArg (· ^^^ m) h
    simp only [Nat.xor_assoc, Nat.xor_self, Nat.xor_zero, Nat.zero_xor] at h4
    omega
  · intro h
    have : n = m := by omega
    rw [this, Nat.xor_self]
theorem getD_bd {zs : List Int} (h : ∀ x ∈ zs, 0 ≤ x ∧ x ≤ 255) (i : Nat) : 0 ≤ zs.getD i 0 ∧ zs.getD i 0 ≤ 255 := by
  rw [List.getD_eq_getElem?_getD]
  cases hi : zs[i]? with
  | none => simp
  | some x => exact h x (List.mem_of_getElem? hi)
theorem take_eq_succ {xs ys : List Int} {i : Nat} (h1 : i < xs.length) (h2 : i < ys.length) : xs.take (i + 1) = ys.take (i + 1) ↔ xs.take i = ys.take i ∧ xs.getD i 0 = ys.getD i 0 := by
  rw [List.take_succ_eq_append_getElem h1, List.take_succ_eq_append_getElem h2]
  have e1 : xs.getD i 0 = xs[i] := by simp [List.getD, h1]
  have e2 : ys.getD i 0 = ys[i] := by simp [List.getD, h2]
  rw [e1, e2]
  constructor
  · intro h
    have := List.append_inj h (by simp; omega)
    simpa using this
  · rintro ⟨h3, h4⟩
    rw [h3, h4]
set_option maxRecDepth 100000 in
set_option maxHeartbeats 4000000 in
theorem equal_c (a1 a2 : Option Addr) (len1 cap1 len2 cap2 : Nat) (xs ys : List Int) (hx : ∀ x ∈ xs, 0 ≤ x ∧ x ≤ 255) (hy : ∀ x ∈ ys, 0 ≤ x ∧ x ≤ 255) (hl : len1 ≤ 1000000) (w : World) (h1 : SlB w a1 len1 xs) (h2 : SlB w a2 len2 ys) :
    CA Try.prog 16 [.slice a1 len1 cap1, .slice a2 len2 cap2] w (RV (.bool (xs == ys)) w) := by
  obtain ⟨hxl, hb1⟩ := h1
  obtain ⟨hyl, hb2⟩ := h2
  by_cases hne : len1 = len2
  · subst hne
    refine enter (L := []) (X := []) Try.func16 rfl Try.ntmps16 rfl rfl (Has.nil _) ?_
    repeat (first | refine c_seq ?_ | (refine c_region (id := 0) ?_; refine st_q (by exact q_assign rfl) rfl ?_; refine l_nil ?_) | (refine c_region (id := 1) ?_; refine st_q (by exact q_move rfl) rfl ?_; refine st_q (by (first | exact q_len_sl rfl | exact q_len_str rfl)) rfl ?_; refine st_q (by exact q_move rfl) rfl ?_; refine st_q (by (first | exact q_len_sl rfl | exact q_len_str rfl)) rfl ?_; refine st_q (by (first | exact Qt.cast (congrArg Value.bool (bne_iff_ne.2 (by omega))) (q_neq rfl rfl) | exact Qt.cast (congrArg Value.bool (bne_eq_false_iff_eq.2 (by omega))) (q_neq rfl rfl))) rfl ?_; refine l_nil ?_) | (refine c_region (id := 3) ?_; refine st_q (by exact q_assign rfl) rfl ?_; refine l_nil ?_) | (refine c_region (id := 4) ?_; refine st_q (by exact q_move rfl) rfl ?_; refine st_q (by (first | exact q_len_sl rfl | exact q_len_str rfl)) rfl ?_; refine st_q (by exact q_move rfl) rfl ?_; refine l_nil ?_) | refine n_then ?_ | refine c_block ?_ | refine c_skip ?_ | refine n_block ?_ | refine c_exit ?_ | refine n_then_exit ?_ | refine n_block_eq ?_ | refine n_block_ne rfl ?_ | refine c_ret ?_ | refine n_then_ret ?_ | refine n_block_ret ?_ | refine c_cond_t rfl ?_ | refine c_cond_f rfl ?_ | refine r_succ ?_ )
    refine c_loop (γ := Nat × Int) (fun z => [(14, .int .i64 z.1), (13, .int .i64 len1), (5, .int .u8 z.2), (0, .slice a1 len1 cap1), (1, .slice a2 len1 cap2)]) (fun _ => w.heap.size) (fun _ => []) (fun z => z.1 ≤ len1 ∧ (0 ≤ z.2 ∧ z.2 ≤ 255) ∧ (z.2 = 0 ↔ xs.take z.1 = ys.take z.1)) (fun z => len1 - z.1) ⟨0, 0⟩ ⟨by omega, by simp, by simp⟩ ⟨rfl, rfl, rfl, rfl, rfl, trivial⟩ rfl (by (repeat (first | exact List.Sublist.slnil | apply List.Sublist.cons_cons | apply List.Sublist.cons))) ?_
    rintro ⟨i, o⟩ ⟨hi, ho, hoe⟩
    dsimp only at hi ho hoe ⊢
    repeat (first | refine c_seq ?_ | (refine c_region (id := 5) ?_; refine st_q (by exact q_lss rfl rfl) rfl ?_; refine l_nil ?_) | refine n_then ?_ | refine c_block ?_ | refine c_skip ?_ | refine n_block ?_ | refine c_exit ?_ | refine n_then_exit ?_ | refine n_block_eq ?_ | refine n_block_ne rfl ?_ | refine c_ret ?_ | refine n_then_ret ?_ | refine n_block_ret ?_ | refine c_cond_t rfl ?_ | refine c_cond_f rfl ?_ | refine r_succ ?_ )
    refine c_cond_dec rfl (fun h => ?_) (fun h => ?_)
    · rcases hb1 with hb1 | ⟨g1, o1, rfl, hO1⟩
      · omega
      rcases hb2 with hb2 | ⟨g2, o2, rfl, hO2⟩
      · omega
      have hi2 : i < len1 := by omega
      have hz1 := map_nth xs i (by omega)
      have hz2 := map_nth ys i (by omega)
      repeat (first | refine c_seq ?_ | (refine c_region (id := 6) ?_; refine st_q (by exact q_move rfl) rfl ?_; refine st_q (by exact q_assign rfl) rfl ?_; refine l_nil ?_) | (refine x_region (id := 7) none [(0, .n), (1, .n), (2, .n), (3, .n), (4, .q), (5, .n), (6, .n), (7, .n), (8, .q), (9, .n), (10, .n), (11, .n)] _ mixed (by kernel_rfl) (List.Sublist.refl _) ?_; refine x_n rfl (by exact q_move rfl) rfl ?_; refine x_n rfl (by exact q_move rfl) rfl ?_; refine x_n rfl (by exact q_move rfl) rfl ?_; refine x_n rfl (by exact q_indexAddr_sl (o' := o1 + i) rfl rfl (by omega) (by omega) (by omega)) rfl ?_; refine x_q rfl (by exact q_load rfl (by (first | exact Rd.blkn (by (repeat (first | exact List.Mem.head _ | apply List.Mem.tail))) (by first | rfl | assumption) | exact Rd.sln (by (repeat (first | exact List.Mem.head _ | apply List.Mem.tail))) (by first | rfl | assumption) | exact Rd.oldn (by assumption) (by first | rfl | assumption) (by simp) | exact Rd.old0 (by assumption) (by simp)))) rfl ?_; refine x_n rfl (by exact q_move rfl) rfl ?_; refine x_n rfl (by exact q_move rfl) rfl ?_; refine x_n rfl (by exact q_indexAddr_sl (o' := o2 + i) rfl rfl (by omega) (by omega) (by omega)) rfl ?_; refine x_q rfl (by exact q_load rfl (by (first | exact Rd.blkn (by (repeat (first | exact List.Mem.head _ | apply List.Mem.tail))) (by first | rfl | assumption) | exact Rd.sln (by (repeat (first | exact List.Mem.head _ | apply List.Mem.tail))) (by first | rfl | assumption) | exact Rd.oldn (by assumption) (by first | rfl | assumption) (by simp) | exact Rd.old0 (by assumption) (by simp)))) rfl ?_; refine x_n rfl (by exact q_xor rfl rfl) rfl ?_; refine x_n rfl (by exact q_or rfl rfl) rfl ?_; refine x_n rfl (by exact q_assign rfl) rfl ?_; refine x_nil ?_) | (refine c_region (id := 8) ?_; refine st_q (by exact q_add64 rfl rfl ⟨by omega, by omega⟩ (by first | (simp only [Nat.zero_add, Nat.add_zero, Nat.mul_one, Nat.one_mul, Int.toNat_natCast, Int.reduceToNat, Nat.reduceMul, Nat.reduceAdd, Nat.reduceSub, Int.reduceAdd, Int.reduceSub, Int.reduceMul, Nat.sub_zero, Int.toNat_zero, Int.zero_add, Int.add_zero, Int.sub_zero, Int.mul_one, Int.one_mul]; try exact rfl) | exact rfl)) rfl ?_; refine st_q (by exact q_move rfl) rfl ?_; refine l_nil ?_) | refine n_then ?_ | refine c_block ?_ | refine c_skip ?_ | refine n_block ?_ | refine c_exit ?_ | refine n_then_exit ?_ | refine n_block_eq ?_ | refine n_block_ne rfl ?_ | refine c_ret ?_ | refine n_then_ret ?_ | refine n_block_ret ?_ | refine c_cond_t rfl ?_ | refine c_cond_f rfl ?_ | refine r_succ ?_ )
      have hX := xor8_zero (getD_bd hx i) (getD_bd hy i)
      have hO := or8_zero ho hX.2
      refine c_round ⟨i + 1, bits .or .u8 o (bits .xor .u8 (xs.getD i 0) (ys.getD i 0))⟩ ⟨by dsimp only; omega, hO.2, ?_⟩ (by dsimp only; omega) ⟨rfl, rfl, rfl, rfl, rfl, trivial⟩ (by rfl) (by (repeat (first | exact List.Sublist.slnil | apply List.Sublist.cons_cons | apply List.Sublist.cons)))
      dsimp only
      rw [hO.1, hX.1, hoe, take_eq_succ (by omega) (by omega)]
    · obtain rfl : i = len1 := by omega
      rw [List.take_of_length_le (by omega), List.take_of_length_le (by omega)] at hoe
      have hv : (o == 0) = (xs == ys) := by
        rw [Bool.eq_iff_iff, beq_iff_eq, beq_iff_eq]; exact hoe
      repeat (first | refine c_seq ?_ | (refine c_region (id := 9) ?_; refine st_q (by exact q_move rfl) rfl ?_; refine st_q (by exact q_eql rfl rfl) rfl ?_; refine st_q (by exact q_assign rfl) rfl ?_; refine l_nil ?_) | refine n_then ?_ | refine c_block ?_ | refine c_skip ?_ | refine n_block ?_ | refine c_exit ?_ | refine n_then_exit ?_ | refine n_block_eq ?_ | refine n_block_ne rfl ?_ | refine c_ret ?_ | refine n_then_ret ?_ | refine n_block_ret ?_ | refine c_cond_t rfl ?_ | refine c_cond_f rfl ?_ | refine r_succ ?_ )
      (first | apply r_ret () | apply r_end ()); exact rfl; exact rfl; exact (.tmp rfl .nil); exact (congrArg Value.bool hv); exact (List.nil_sublist _); exact new_nil; exact trivial
  · have hv : (xs == ys) = false := by
      rw [beq_eq_false_iff_ne]
      intro e
      exact hne (by rw [← hxl, ← hyl, e])
    rw [hv]
    refine enter (L := []) (X := []) Try.func16 rfl Try.ntmps16 rfl rfl (Has.nil _) ?_
    repeat (first | refine c_seq ?_ | (refine c_region (id := 0) ?_; refine st_q (by exact q_assign rfl) rfl ?_; refine l_nil ?_) | (refine c_region (id := 1) ?_; refine st_q (by exact q_move rfl) rfl ?_; refine st_q (by (first | exact q_len_sl rfl | exact q_len_str rfl)) rfl ?_; refine st_q (by exact q_move rfl) rfl ?_; refine st_q (by (first | exact q_len_sl rfl | exact q_len_str rfl)) rfl ?_; refine st_q (by (first | exact Qt.cast (congrArg Value.bool (bne_iff_ne.2 (by omega))) (q_neq rfl rfl) | exact Qt.cast (congrArg Value.bool (bne_eq_false_iff_eq.2 (by omega))) (q_neq rfl rfl))) rfl ?_; refine l_nil ?_) | (refine c_region (id := 2) ?_; refine st_q (by exact q_assign rfl) rfl ?_; refine l_nil ?_) | refine n_then ?_ | refine c_block ?_ | refine c_skip ?_ | refine n_block ?_ | refine c_exit ?_ | refine n_then_exit ?_ | refine n_block_eq ?_ | refine n_block_ne rfl ?_ | refine c_ret ?_ | refine n_then_ret ?_ | refine n_block_ret ?_ | refine c_cond_t rfl ?_ | refine c_cond_f rfl ?_ | refine r_succ ?_ )
    (first | apply r_ret () | apply r_end ()); exact rfl; exact rfl; exact (.tmp rfl .nil); exact rfl; exact (List.nil_sublist _); exact new_nil; exact trivial
set_option maxRecDepth 100000 in
set_option maxHeartbeats 4000000 in
theorem same_c (a1 a2 : Option Addr) (len1 cap1 len2 cap2 : Nat) (xs ys : List Int) (hx : ∀ x ∈ xs, 0 ≤ x ∧ x ≤ 255) (hy : ∀ x ∈ ys, 0 ≤ x ∧ x ≤ 255) (w : World) (h1 : SlB w a1 len1 xs) (h2 : SlB w a2 len2 ys) :
    CA Try.prog 17 [.slice a1 len1 cap1, .slice a2 len2 cap2] w (RV (.bool (xs == ys)) w) := by
  refine enter (L := []) (X := []) Try.func17 rfl Try.ntmps17 rfl rfl (Has.nil _) ?_
  repeat (first | refine c_seq ?_ | (refine c_region (id := 0) ?_; refine st_q (by exact q_assign rfl) rfl ?_; refine l_nil ?_) | (refine c_region (id := 1) ?_; refine st_q (by exact q_move rfl) rfl ?_; refine st_q (by exact q_conv_bytes (xs := xs) rfl h1.vw h1.1) rfl ?_; refine st_q (by exact q_move rfl) rfl ?_; refine st_q (by exact q_conv_bytes (xs := ys) rfl h2.vw h2.1) rfl ?_; refine st_q (by exact q_eql_str rfl rfl) rfl ?_; refine st_q (by exact q_assign rfl) rfl ?_; refine l_nil ?_) | refine n_then ?_ | refine c_block ?_ | refine c_skip ?_ | refine n_block ?_ | refine c_exit ?_ | refine n_then_exit ?_ | refine n_block_eq ?_ | refine n_block_ne rfl ?_ | refine c_ret ?_ | refine n_then_ret ?_ | refine n_block_ret ?_ | refine c_cond_t rfl ?_ | refine c_cond_f rfl ?_ | refine r_succ ?_ )
  (first | apply r_ret () | apply r_end ()); exact rfl; exact rfl; exact (.tmp rfl .nil); exact (congrArg Value.bool (strOfNums_beq hx hy)); exact (List.nil_sublist _); exact new_nil; exact trivial
end Go.Proofs.Ytbkdopmnaopppaa
