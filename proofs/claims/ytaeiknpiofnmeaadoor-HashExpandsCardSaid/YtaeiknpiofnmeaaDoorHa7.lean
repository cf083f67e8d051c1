/- HMAC. -/
import Derived.Test.YtaeiknpiofnmeaaDoorHa6
namespace Go.Proofs.YtaeiknpiofnmeaaDoor
open Go Go.RowKit
set_option linter.unusedVariables false
set_option linter.unusedSimpArgs false
def mskB (m : Nat) (x : Int) : Int := ((x.toNat ^^^ m : Nat) : Int)
def mskL (m : Nat) (kp : List Int) : List Int := kp.map (mskB m)
def mskK (m : Nat) (kp : List Int) (i : Nat) : List Int := mskL m (kp.take i) ++ kp.drop i
theorem mskB_bd {m : Nat} (hm : m < 256) {x : Int} (hx : 0 ≤ x ∧ x ≤ 255) : 0 ≤ mskB m x ∧ mskB m x ≤ 255 := by
  unfold mskB
  have : x.toNat ^^^ m < 2 ^ 8 := Nat.xor_lt_two_pow (by omega) (by omega)
  omega
theorem mskL_bd {m : Nat} (hm : m < 256) {kp : List Int} (hx : ∀ x ∈ kp, 0 ≤ x ∧ x ≤ 255) : ∀ x ∈ mskL m kp, 0 ≤ x ∧ x ≤ 255 := by
  intro x h
  obtain ⟨y, hy, rfl⟩ := List.mem_map.1 h
  exact mskB_bd hm (hx y hy)
theorem mskL_len (m : Nat) (kp : List Int) : (mskL m kp).length = kp.length := by simp [mskL]
theorem mskK_len (m : Nat) (kp : List Int) (i : Nat) : (mskK m kp i).length = kp.length := by simp [mskK, mskL]; omega
theorem mskK_get (m : Nat) (kp : List Int) (i : Nat) (hi : i < kp.length) : (mskK m kp i)[i]? = some (kp.getD i 0) := by
  unfold mskK
  rw [List.getElem?_append_right (by simp [mskL]; omega), List.getElem?_drop]
  simp only [mskL_len, List.length_take]
  rw [Nat.min_eq_left (by omega), Nat.sub_self, Nat.add_zero, List.getD_eq_getElem?_getD, List.getElem?_eq_getElem hi, Option.getD_some]
theorem mskK_set (m : Nat) (kp : List Int) (i : Nat) (hi : i < kp.length) : (mskK m kp i).set i (mskB m (kp.getD i 0)) = mskK m kp (i + 1) := by
  unfold mskK mskL
  have e1 : kp.drop i = kp.getD i 0 :: kp.drop (i + 1) := by
    rw [List.drop_eq_getElem_cons hi, List.getD_eq_getElem?_getD, List.getElem?_eq_getElem hi, Option.getD_some]
  have e2 : kp.take (i + 1) = kp.take i ++ [kp.getD i 0] := by
    rw [List.take_add_one, List.getD_eq_getElem?_getD, List.getElem?_eq_getElem hi]; rfl
  rw [e1, e2, List.set_append_right _ _ (by simp; omega)]
  simp only [List.length_map, List.length_take]
  rw [Nat.min_eq_left (by omega), Nat.sub_self]
  simp
set_option maxRecDepth 100000 in
set_option maxHeartbeats 4000000 in
theorem masked_c (mk : Nat) (hm : mk < 256) (kp : List Int) (hkp : ∀ x ∈ kp, 0 ≤ x ∧ x ≤ 255) (hl : kp.length = 64) (w : World) :
    CA Tryd.prog 22 [.agg (kp.map (Value.int .u8)).toArray, .int .u8 (mk : Int)] w (RV (.agg ((mskL mk kp).map (Value.int .u8)).toArray) w) := by
  refine enter (L := []) (X := []) Tryd.func22 rfl Tryd.ntmps22 rfl rfl (Has.nil _) ?_
  repeat (first | refine c_seq ?_ | (refine c_region (id := 0) ?_; refine st_e ?_; refine e_box_agg rfl rfl ?_; refine st_e ?_; refine e_alloc rfl ?_; refine l_nil ?_) | (refine c_region (id := 1) ?_; refine st_q (by exact q_move rfl) rfl ?_; refine l_nil ?_) | refine n_then ?_ | refine c_block ?_ | refine c_skip ?_ | refine n_block ?_ | refine c_exit ?_ | refine n_then_exit ?_ | refine n_block_eq ?_ | refine n_block_ne rfl ?_ | refine c_ret ?_ | refine n_then_ret ?_ | refine n_block_ret ?_ | refine c_cond_t rfl ?_ | refine c_cond_f rfl ?_ | refine r_succ ?_ )
  refine chg (L' := [.blk (w.heap.size + 1) (.cells (List.replicate 64 (Value.int .u8 0)).toArray 52 (0, 0)), .blk w.heap.size (.cells ((mskK mk kp 0).map (Value.int .u8)).toArray 52 (0, 0))]) (by simp [mskK, mskL]) ?_
  refine c_loop (γ := Nat) (fun i => [(6, .int .i64 i), (2, .pointer (some ⟨w.heap.size, 0, none⟩)), (4, .pointer (some ⟨w.heap.size + 1, 0, none⟩)), (1, .int .u8 (mk : Int))]) (fun _ => w.heap.size + 1 + 1) (fun i => [.blk (w.heap.size + 1) (.cells (List.replicate 64 (Value.int .u8 0)).toArray 52 (0, 0)), .blk w.heap.size (.cells ((mskK mk kp i).map (Value.int .u8)).toArray 52 (0, 0))]) (fun i => i ≤ 64) (fun i => 64 - i) 0 (by omega) ⟨rfl, rfl, rfl, rfl, trivial⟩ rfl (by (repeat (first | exact List.Sublist.slnil | apply List.Sublist.cons_cons | apply List.Sublist.cons))) ?_
  intro i hi
  repeat (first | refine c_seq ?_ | (refine c_region (id := 2) ?_; refine st_q (by exact q_lss rfl rfl) rfl ?_; refine l_nil ?_) | refine n_then ?_ | refine c_block ?_ | refine c_skip ?_ | refine n_block ?_ | refine c_exit ?_ | refine n_then_exit ?_ | refine n_block_eq ?_ | refine n_block_ne rfl ?_ | refine c_ret ?_ | refine n_then_ret ?_ | refine n_block_ret ?_ | refine c_cond_t rfl ?_ | refine c_cond_f rfl ?_ | refine r_succ ?_ )
  refine c_cond_dec rfl (fun hlt => ?_) (fun hlt => ?_)
  · have hi2 : i < kp.length := by omega
    have hx := hkp (kp.getD i 0) (by rw [List.getD_eq_getElem?_getD, List.getElem?_eq_getElem hi2, Option.getD_some]; exact List.getElem_mem hi2)
    have hn : nth ((mskK mk kp i).map (Value.int .u8)).toArray.toList i = some (.int .u8 (kp.getD i 0)) := nth_map (mskK_get mk kp i hi2)
    obtain ⟨z, hz⟩ : ∃ z, z = kp.getD i 0 := ⟨_, rfl⟩
    rw [← hz] at hx hn
    repeat (first | refine c_seq ?_ | (refine c_region (id := 3) ?_; refine st_q (by exact q_move rfl) rfl ?_; refine st_q (by exact q_assign rfl) rfl ?_; refine l_nil ?_) | (refine c_region (id := 4) ?_; refine st_q (by exact q_move rfl) rfl ?_; refine st_q (by exact q_indexAddr_arr (o' := i) rfl rfl (by omega) (by omega) (by omega)) rfl ?_; refine st_q (by exact q_load rfl (by (first | exact Rd.blkn (by (repeat (first | exact List.Mem.head _ | apply List.Mem.tail))) (by first | rfl | assumption) | exact Rd.sln (by (repeat (first | exact List.Mem.head _ | apply List.Mem.tail))) (by first | rfl | assumption) | exact Rd.oldn (by assumption) (by first | rfl | assumption) (by simp) | exact Rd.old0 (by assumption) (by simp)))) rfl ?_; refine st_q (by exact q_move rfl) rfl ?_; refine st_q (by exact Qt.cast (v' := .int .u8 (mskB mk z)) (congrArg (Value.int .u8) (by unfold mskB; rw [← u8_xor_nat z.toNat mk (by omega) hm, Int.toNat_of_nonneg hx.1])) (q_xor rfl rfl)) rfl ?_; refine st_q (by exact q_indexAddr_arr (o' := i) rfl rfl (by omega) (by omega) (by omega)) rfl ?_; refine st_e0 ?_; refine e_store1l (l := (mskK mk kp i).map (Value.int .u8)) (l' := (mskK mk kp (i + 1)).map (Value.int .u8)) rfl rfl rfl (by (repeat (first | exact List.Mem.head _ | apply List.Mem.tail))) (by rw [setL_eq, ← List.map_set, hz, mskK_set mk kp i hi2]) (by (repeat (first | exact Pl.here | apply Pl.there))) (by simp [mskK_len, hl]; omega) (by first | (left; simp; done) | (right; omega)) ?_; refine l_nil ?_) | (refine c_region (id := 5) ?_; refine st_q (by exact q_add64 rfl rfl ⟨by omega, by omega⟩ (by first | (simp only [Nat.zero_add, Nat.add_zero, Nat.mul_one, Nat.one_mul, Int.toNat_natCast, Int.reduceToNat, Nat.reduceMul, Nat.reduceAdd, Nat.reduceSub, Int.reduceAdd, Int.reduceSub, Int.reduceMul, Nat.sub_zero, Int.toNat_zero, Int.zero_add, Int.add_zero, Int.sub_zero, Int.mul_one, Int.one_mul]; try exact rfl) | exact rfl)) rfl ?_; refine st_q (by exact q_move rfl) rfl ?_; refine l_nil ?_) | refine n_then ?_ | refine c_block ?_ | refine c_skip ?_ | refine n_block ?_ | refine c_exit ?_ | refine n_then_exit ?_ | refine n_block_eq ?_ | refine n_block_ne rfl ?_ | refine c_ret ?_ | refine n_then_ret ?_ | refine n_block_ret ?_ | refine c_cond_t rfl ?_ | refine c_cond_f rfl ?_ | refine r_succ ?_ )
    refine c_round (i + 1) (by omega) (by omega) ⟨rfl, rfl, rfl, rfl, trivial⟩ (by rfl) (by (repeat (first | exact List.Sublist.slnil | apply List.Sublist.cons_cons | apply List.Sublist.cons)))
  · obtain rfl : i = 64 := by omega
    repeat (first | refine c_seq ?_ | (refine c_region (id := 6) ?_; refine st_q (by exact q_load_blk rfl (by (repeat (first | exact List.Mem.head _ | apply List.Mem.tail))) (by simp [mskK_len, hl])) rfl ?_; refine st_e0 ?_; refine e_store_all rfl rfl (by simp [mskK_len, hl]) (allOne_u8' _) (by (repeat (first | exact Pl.here | apply Pl.there))) (by rfl) (by first | (left; simp; done) | (right; omega)) ?_; refine l_nil ?_) | refine n_then ?_ | refine c_block ?_ | refine c_skip ?_ | refine n_block ?_ | refine c_exit ?_ | refine n_then_exit ?_ | refine n_block_eq ?_ | refine n_block_ne rfl ?_ | refine c_ret ?_ | refine n_then_ret ?_ | refine n_block_ret ?_ | refine c_cond_t rfl ?_ | refine c_cond_f rfl ?_ | refine r_succ ?_ )
    (first | apply r_ret () | apply r_end ()); exact rfl; exact rfl; exact (.row rfl (by (repeat (first | exact List.Mem.head _ | apply List.Mem.tail))) (by simp [mskK_len, hl]) .nil); exact (by unfold mskK; rw [List.take_of_length_le (by omega), List.drop_of_length_le (by omega), List.append_nil]; rfl); exact (List.nil_sublist _); exact new_nil; exact trivial
end Go.Proofs.YtaeiknpiofnmeaaDoor
