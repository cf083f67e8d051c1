/- StoreCrashes: what it needs, part 4. -/
import Derived.Test.YtgmghkakiocmjaaGreatDoorSStoreCrashesC
namespace Go.Proofs.YtgmghkakiocmjaaGreatDoor
open Go Go.RowKit
set_option linter.unusedVariables false
set_option linter.unusedSimpArgs false
def leb (x : Nat) : List Int := if x < 128 then [(x : Int)] else ((x % 128 + 128 : Nat) : Int) :: leb (x / 128)
decreasing_by omega
theorem leb_small {x : Nat} (h : x < 128) : leb x = [(x : Int)] := by rw [leb, if_pos h]
theorem leb_big {x : Nat} (h : ¬ x < 128) : leb x = ((x % 128 + 128 : Nat) : Int) :: leb (x / 128) := by rw [leb, if_neg h]
theorem leb_bd (x : Nat) : ∀ y ∈ leb x, 0 ≤ y ∧ y ≤ 255 := by
  induction x using Nat.strongRecOn with
  | ind x ih =>
    by_cases h : x < 128
    · rw [leb_small h]; intro y hy; simp only [List.mem_singleton] at hy; omega
    · rw [leb_big h]; intro y hy
      rcases List.mem_cons.1 hy with rfl | hy
      · omega
      · exact ih (x / 128) (by omega) y hy
theorem or128 (c : Nat) : bits .or .u8 ((c % 256 : Nat) : Int) 128 = ((c % 128 + 128 : Nat) : Int) := by
  have h : ∀ z : Fin 256, bits .or .u8 ((z.val : Nat) : Int) 128 = ((z.val % 128 + 128 : Nat) : Int) := by decide +kernel
  have := h ⟨c % 256, by omega⟩
  simp only at this
  rw [this]
  congr 2
  omega
theorem pk_set (pk : List Int) (v : Int) (h : pk.length < 10) : ((pk ++ List.replicate (10 - pk.length) 0).map (Value.int .u8)).set pk.length (.int .u8 v) = ((pk ++ [v] ++ List.replicate (10 - (pk.length + 1)) 0).map (Value.int .u8)) := by
  obtain ⟨q, hq⟩ : ∃ q, 10 - pk.length = q + 1 := ⟨10 - pk.length - 1, by omega⟩
  rw [hq, show 10 - (pk.length + 1) = q by omega]
  simp [List.map_append, List.set_append_right, List.replicate_succ]
theorem pk_take (pk : List Int) (v : Int) (q : Nat) : ((((pk ++ [v] ++ List.replicate q 0).map (Value.int .u8)).toArray.toList.drop 0).take (pk.length + 1)) = (pk ++ [v]).map (Value.int .u8) := by
  rw [List.drop_zero, List.map_append]
  rw [show pk.length + 1 = ((pk ++ [v]).map (Value.int .u8)).length by simp]
  exact List.take_left
theorem pow_bound {n cur x : Nat} (h : cur * 128 ^ n ≤ x) (hx : x < 18446744073709551616) (hc : 1 ≤ cur) : n ≤ 9 := by
  rcases Nat.lt_or_ge n 10 with h9 | h9
  · omega
  · have h1 : 128 ^ 10 ≤ 128 ^ n := Nat.pow_le_pow_right (by omega) h9
    have h2 : 1 * 128 ^ n ≤ cur * 128 ^ n := Nat.mul_le_mul_right _ hc
    have h3 : (128 : Nat) ^ 10 = 1180591620717411303424 := by decide
    omega
theorem pow_step {n cur x : Nat} (h : cur * 128 ^ n ≤ x) : (cur / 128) * 128 ^ (n + 1) ≤ x := by
  rw [Nat.pow_succ, Nat.mul_comm (128 ^ n), ← Nat.mul_assoc]
  exact Nat.le_trans (Nat.mul_le_mul_right _ (Nat.div_mul_le_self _ _)) h
set_option maxRecDepth 100000 in
set_option maxHeartbeats 4000000 in
theorem num_c (go : Nat) (b : Option Addr) (cap : Nat) (xs : List Int) (lg : Bool) (hxb : ∀ x ∈ xs, 0 ≤ x ∧ x ≤ 255) (hxn : xs.length ≤ 16384) (ho : OS [] 0 b cap xs.length) (w : World) (hL0 : Has (OutL go b cap xs lg) w) (x : Nat) (hx64 : x < 18446744073709551616) :
    CA Tryz.prog 67 [.pointer (some ⟨go, 0, none⟩), .int .u64 (x : Int)] w (Ret (fun _ : Option Addr × Nat => .tuple #[]) (feet (OutL go b cap xs lg)) (fun z => OutL go z.1 z.2 ((pS xs lg (leb x)).1) ((pS xs lg (leb x)).2)) (fun z => OS [] 0 z.1 z.2 ((pS xs lg (leb x)).1).length) w) := by
  obtain ⟨gp, hgp⟩ : ∃ gp, gp = w.heap.size := ⟨_, rfl⟩
  refine enter (L := [.sl b cap 5 1 (xs.map (Value.int .u8)), .blk go (.cells #[.slice b xs.length cap, .bool lg] 98 (0, 0))]) (X := feet (OutL go b cap xs lg)) Tryz.func67 rfl Tryz.ntmps67 rfl rfl hL0 ?_
  rw [← hgp]
  repeat (first | refine c_seq ?_ | (refine c_region (id := 0) ?_; refine se ?_; refine ea ?_; refine l_nil ?_) | (refine c_region (id := 1) ?_; refine sq qa ?_; refine l_nil ?_) | refine n_then ?_ | refine c_block ?_ | refine c_skip ?_ | refine n_block ?_ | refine c_exit ?_ | refine n_then_exit ?_ | refine n_block_eq ?_ | refine n_block_ne rfl ?_ | refine c_ret ?_ | refine n_then_ret ?_ | refine n_block_ret ?_ | refine c_cond_t rfl ?_ | refine c_cond_f rfl ?_ | refine r_succ ?_ )
  refine chg (L' := .blk gp (.cells ((([] : List Int) ++ List.replicate (10) 0).map (Value.int .u8)).toArray 137 (0, 0)) :: OutL go b cap xs lg) (by rfl) ?_
  refine c_loop (γ := List Int × Nat) (fun z => [(5, .int .i64 ((z.1.length : Nat) : Int)), (4, .pointer (some ⟨gp, 0, none⟩)), (1, .int .u64 ((z.2 : Nat) : Int)), (0, .pointer (some ⟨go, 0, none⟩))]) (fun _ => gp + 1) (fun z => .blk gp (.cells ((z.1 ++ List.replicate (10 - z.1.length) 0).map (Value.int .u8)).toArray 137 (0, 0)) :: OutL go b cap xs lg) (fun z => leb x = z.1 ++ leb z.2 ∧ z.2 * 128 ^ z.1.length ≤ x ∧ 1 ≤ z.2 ∨ (z.1 = [] ∧ z.2 = x)) (fun z => z.2) ⟨[], x⟩ (.inr ⟨rfl, rfl⟩) ⟨rfl, rfl, rfl, rfl, trivial⟩ rfl (by (repeat (first | exact List.nil_sublist _ | exact List.Sublist.slnil | apply List.Sublist.cons_cons | exact List.Sublist.refl _ | apply List.Sublist.cons))) ?_
  rintro ⟨pk, cur⟩ hpk
  dsimp only at hpk ⊢
  have hlx0 : leb x = pk ++ leb cur := by rcases hpk with h9 | h9; exact h9.1; rw [h9.1, h9.2]; rfl
  have hcx : cur * 128 ^ pk.length ≤ x := by rcases hpk with h9 | h9; exact h9.2.1; rw [h9.1, h9.2]; simp
  have hn9 : pk.length ≤ 9 := by rcases hpk with h9 | h9; exact pow_bound hcx hx64 h9.2.2; rw [h9.1]; simp
  have hcu : cur ≤ x := by
    have h7 := Nat.le_mul_of_pos_right cur (show 0 < 128 ^ pk.length from Nat.pow_pos (by omega)); omega
  by_cases hc : cur < 128
  · have hlx : leb x = pk ++ [(cur : Int)] := by rw [hlx0, leb_small hc]
    have hlx2 : (leb x).length = pk.length + 1 := by rw [hlx]; simp
    repeat (first | refine c_seq ?_ | (refine c_region (id := 2) ?_; refine sq qm ?_; refine sq (by first | exact dgeqt | exact dgeqf) ?_; refine l_nil ?_) | (refine c_region (id := 6) ?_; refine sq qm ?_; refine sq qm ?_; refine sq (by exact Qt.cast (v' := .int .u8 ((cur : Nat) : Int)) (congrArg (Value.int .u8) (by omega)) (q_conv8 rfl)) ?_; refine sq (by exact q_indexAddr_arr (o' := pk.length) rfl rfl (by omega) (by omega) (by omega)) ?_; refine se ?_; (refine e_store1l (l := (pk ++ List.replicate (10 - pk.length) 0).map (Value.int .u8)) (l' := (pk ++ [((cur : Nat) : Int)] ++ List.replicate (10 - (pk.length + 1)) 0).map (Value.int .u8)) rfl rfl rfl (by (repeat (first | exact List.Mem.head _ | apply List.Mem.tail))) (by rw [setL_eq]; exact pk_set pk _ (by omega)) (by (repeat (first | exact Pl.here | apply Pl.there))) (by simp; omega) (by first | (left; simp; done) | (right; omega)) ?_); refine l_nil ?_) | refine n_then ?_ | refine c_block ?_ | refine c_skip ?_ | refine n_block ?_ | refine c_exit ?_ | refine n_then_exit ?_ | refine n_block_eq ?_ | refine n_block_ne rfl ?_ | refine c_ret ?_ | refine n_then_ret ?_ | refine n_block_ret ?_ | refine c_cond_t rfl ?_ | refine c_cond_f rfl ?_ | refine r_succ ?_ )
    repeat (first | refine c_seq ?_ | (refine c_region (id := 7) ?_; refine sq qm ?_; refine sq qm ?_; refine sq (by exact Qt.cast (v' := .int .i64 ((pk.length + 1 : Nat) : Int)) (congrArg (Value.int .i64) (by omega)) (q_add64 rfl rfl ⟨by omega, by omega⟩ rfl)) ?_; refine sq (by exact q_slice_arr (o' := 0) (len' := pk.length + 1) (cap' := 10) rfl rfl rfl (by omega) (by omega) (by omega) (by simp) (by omega) (by omega)) ?_; refine se ?_; refine e_callX (OutL go b cap xs lg) (fun z : Option Addr × Nat => [.sl z.1 z.2 5 1 (((pS xs lg (leb x)).1).map (Value.int .u8)), .blk go (.cells #[.slice z.1 ((pS xs lg (leb x)).1).length z.2, .bool (pS xs lg (leb x)).2] 98 (0, 0)), .blk gp (.cells ((pk ++ [((cur : Nat) : Int)] ++ List.replicate (10 - (pk.length + 1)) 0).map (Value.int .u8)).toArray 137 (0, 0))]) rfl rfl (by kernel_rfl) rfl (by (repeat (first | exact Sp.nil | (apply Sp.cons; focus (repeat (first | exact Rm.here | apply Rm.there)))))) (fun w hC hm hA hL hap => by exact put_c go b cap xs lg hxb hxn ho w hA (some ⟨gp, 0, none⟩) (pk.length + 1) 10 (leb x) hlx2 (by omega) (leb_bd x) (by omega) (by rw [hlx]; exact SlE.blk (enc := Value.int .u8) hL (by (repeat (first | exact List.Mem.head _ | apply List.Mem.tail))) 0 (pk.length + 1) (pk_take pk _ _)) (fun g o e _ => by simp only [Option.some.injEq, Addr.mk.injEq] at e; intro hm; exact hap g hm (by simp [feet, Chunk.foot, e.1]))) (fun g hg => .inl hg) (fun z => by rfl) ?_; rintro ⟨b1, cap1⟩ m1 ho1 hn1 hm1; dsimp only at ho1 hn1 ⊢; refine l_nil ?_) | refine n_then ?_ | refine c_block ?_ | refine c_skip ?_ | refine n_block ?_ | refine c_exit ?_ | refine n_then_exit ?_ | refine n_block_eq ?_ | refine n_block_ne rfl ?_ | refine c_ret ?_ | refine n_then_ret ?_ | refine n_block_ret ?_ | refine c_cond_t rfl ?_ | refine c_cond_f rfl ?_ | refine r_succ ?_ )
    (first | apply r_ret (b1, cap1) | apply r_end (b1, cap1)); exact rfl; exact rfl; exact .nil; exact rfl; exact (by exact (by (repeat (first | exact List.nil_sublist _ | exact List.Sublist.slnil | apply List.Sublist.cons_cons | exact List.Sublist.refl _ | apply List.Sublist.cons)))); exact hn1; exact ho1
  · have hc1 : 1 ≤ cur / 128 := by omega
    have hst := pow_step hcx
    have hn8 : pk.length + 1 ≤ 9 := pow_bound hst hx64 hc1
    repeat (first | refine c_seq ?_ | (refine c_region (id := 2) ?_; refine sq qm ?_; refine sq (by first | exact dgeqt | exact dgeqf) ?_; refine l_nil ?_) | (refine c_region (id := 3) ?_; refine sq qm ?_; refine sq (by exact Qt.cast (v' := .int .u64 ((cur / 128 : Nat) : Int)) (congrArg (Value.int .u64) (by rw [show (2 : Int) ^ (7 : Int).toNat = 128 by rfl]; omega)) (q_shr rfl rfl (by omega) (by show Int.toNat _ ≤ 64; omega))) ?_; refine sq qa ?_; refine l_nil ?_) | (refine c_region (id := 4) ?_; refine sq qm ?_; refine sq qm ?_; refine sq (by exact Qt.cast (v' := .int .u8 ((cur % 256 : Nat) : Int)) (congrArg (Value.int .u8) (by omega)) (q_conv8 rfl)) ?_; refine sq (by exact Qt.cast (v' := .int .u8 ((cur % 128 + 128 : Nat) : Int)) (congrArg (Value.int .u8) (or128 cur)) (q_or rfl rfl)) ?_; refine sq (by exact q_indexAddr_arr (o' := pk.length) rfl rfl (by omega) (by omega) (by omega)) ?_; refine se ?_; (refine e_store1l (l := (pk ++ List.replicate (10 - pk.length) 0).map (Value.int .u8)) (l' := (pk ++ [((cur % 128 + 128 : Nat) : Int)] ++ List.replicate (10 - (pk.length + 1)) 0).map (Value.int .u8)) rfl rfl rfl (by (repeat (first | exact List.Mem.head _ | apply List.Mem.tail))) (by rw [setL_eq]; exact pk_set pk _ (by omega)) (by (repeat (first | exact Pl.here | apply Pl.there))) (by simp; omega) (by first | (left; simp; done) | (right; omega)) ?_); refine l_nil ?_) | (refine c_region (id := 5) ?_; refine sq qm ?_; refine sq (by exact Qt.cast (v' := .int .i64 ((pk.length + 1 : Nat) : Int)) (congrArg (Value.int .i64) (by omega)) (q_add64 rfl rfl ⟨by omega, by omega⟩ rfl)) ?_; refine sq qa ?_; refine l_nil ?_) | refine n_then ?_ | refine c_block ?_ | refine c_skip ?_ | refine n_block ?_ | refine c_exit ?_ | refine n_then_exit ?_ | refine n_block_eq ?_ | refine n_block_ne rfl ?_ | refine c_ret ?_ | refine n_then_ret ?_ | refine n_block_ret ?_ | refine c_cond_t rfl ?_ | refine c_cond_f rfl ?_ | refine r_succ ?_ )
    refine c_round ⟨pk ++ [((cur % 128 + 128 : Nat) : Int)], cur / 128⟩ (.inl ⟨by dsimp only; rw [hlx0, leb_big hc, List.append_assoc]; rfl, by dsimp only; rw [List.length_append]; exact hst, hc1⟩) (by dsimp only; omega) (by dsimp only; rw [List.length_append]; exact ⟨rfl, rfl, rfl, rfl, trivial⟩) (by rfl) (by dsimp only; rw [List.length_append]; exact (by (repeat (first | exact List.nil_sublist _ | exact List.Sublist.slnil | apply List.Sublist.cons_cons | exact List.Sublist.refl _ | apply List.Sublist.cons))))
end Go.Proofs.YtgmghkakiocmjaaGreatDoor
namespace Go.Proofs.YtgmghkakiocmjaaGreatDoor
open Go Go.RowKit
set_option linter.unusedVariables false
set_option linter.unusedSimpArgs false
def txS (xs : List Int) (lg : Bool) (ys : List Int) : List Int × Bool := if 4096 < ys.length then (xs, true) else pS (pS xs lg (leb ys.length)).1 (pS xs lg (leb ys.length)).2 ys
theorem notNew {ya : Option Addr} {ys : List Int} {F F' : List Nat} {w : World} (h : NotIn ya ys F) (hs : SlE (Value.int .u8) w ya ys) (hF : ∀ g ∈ F', g ∈ F ∨ w.heap.size ≤ g) : NotIn ya ys F' := fun g o e hl hm =>
  (hF g hm).elim (h g o e hl) (fun h9 => by have := hs.lt g o e hl; omega)
set_option maxRecDepth 100000 in
set_option maxHeartbeats 4000000 in
theorem raw_c (go : Nat) (b : Option Addr) (cap : Nat) (xs : List Int) (lg : Bool) (hxb : ∀ x ∈ xs, 0 ≤ x ∧ x ≤ 255) (hxn : xs.length ≤ 16384) (ho : OS [] 0 b cap xs.length) (w : World) (hL0 : Has (OutL go b cap xs lg) w) (ya : Option Addr) (yl yc : Nat) (ys : List Int) (hyl : ys.length = yl) (hyc : yl ≤ yc) (hyb : ∀ x ∈ ys, 0 ≤ x ∧ x ≤ 255) (hyn : yl ≤ 9223372036854775807) (hys : SlE (Value.int .u8) w ya ys) (hyg : NotIn ya ys (feet (OutL go b cap xs lg))) :
    CA Tryz.prog 68 [.pointer (some ⟨go, 0, none⟩), .slice ya yl yc] w (Ret (fun _ : Option Addr × Nat => .tuple #[]) (feet (OutL go b cap xs lg)) (fun z => OutL go z.1 z.2 ((pS xs lg ys).1) ((pS xs lg ys).2)) (fun z => OS [] 0 z.1 z.2 ((pS xs lg ys).1).length) w) := by
  refine enter (L := [.sl b cap 5 1 (xs.map (Value.int .u8)), .blk go (.cells #[.slice b xs.length cap, .bool lg] 98 (0, 0))]) (X := feet (OutL go b cap xs lg)) Tryz.func68 rfl Tryz.ntmps68 rfl rfl hL0 ?_
  repeat (first | refine c_seq ?_ | (refine c_region (id := 0) ?_; refine sq qm ?_; refine sq qm ?_; refine se ?_; refine e_callX (OutL go b cap xs lg) (fun z : Option Addr × Nat => [.sl z.1 z.2 5 1 (((pS xs lg ys).1).map (Value.int .u8)), .blk go (.cells #[.slice z.1 ((pS xs lg ys).1).length z.2, .bool (pS xs lg ys).2] 98 (0, 0))]) rfl rfl (by kernel_rfl) rfl (by (repeat (first | exact Sp.nil | (apply Sp.cons; focus (repeat (first | exact Rm.here | apply Rm.there)))))) (fun w hC hm hA hL hap => by exact put_c go b cap xs lg hxb hxn ho w hA ya yl yc ys hyl (by omega) hyb (by omega) (hys.chn hC hyg) hyg) (fun g hg => .inl hg) (fun z => by rfl) ?_; rintro ⟨b1, cap1⟩ m1 ho1 hn1 hm1; dsimp only at ho1 hn1 ⊢; refine l_nil ?_) | refine n_then ?_ | refine c_block ?_ | refine c_skip ?_ | refine n_block ?_ | refine c_exit ?_ | refine n_then_exit ?_ | refine n_block_eq ?_ | refine n_block_ne rfl ?_ | refine c_ret ?_ | refine n_then_ret ?_ | refine n_block_ret ?_ | refine c_cond_t rfl ?_ | refine c_cond_f rfl ?_ | refine r_succ ?_ )
  (first | apply r_ret (b1, cap1) | apply r_end (b1, cap1)); exact rfl; exact rfl; exact .nil; exact rfl; exact (by exact (by (repeat (first | exact List.nil_sublist _ | exact List.Sublist.slnil | apply List.Sublist.cons_cons | exact List.Sublist.refl _ | apply List.Sublist.cons)))); exact hn1; exact ho1
set_option maxRecDepth 100000 in
set_option maxHeartbeats 4000000 in
theorem text_c (go : Nat) (b : Option Addr) (cap : Nat) (xs : List Int) (lg : Bool) (hxb : ∀ x ∈ xs, 0 ≤ x ∧ x ≤ 255) (hxn : xs.length ≤ 16384) (ho : OS [] 0 b cap xs.length) (w : World) (hL0 : Has (OutL go b cap xs lg) w) (ya : Option Addr) (yl yc : Nat) (ys : List Int) (hyl : ys.length = yl) (hyc : yl ≤ yc) (hyb : ∀ x ∈ ys, 0 ≤ x ∧ x ≤ 255) (hyn : yl ≤ 9223372036854775807) (hys : SlE (Value.int .u8) w ya ys) (hyg : NotIn ya ys (feet (OutL go b cap xs lg))) :
    CA Tryz.prog 48 [.pointer (some ⟨go, 0, none⟩), .slice ya yl yc] w (Ret (fun _ : Option Addr × Nat => .tuple #[]) (feet (OutL go b cap xs lg)) (fun z => OutL go z.1 z.2 ((txS xs lg ys).1) ((txS xs lg ys).2)) (fun z => OS [] 0 z.1 z.2 ((txS xs lg ys).1).length) w) := by
  by_cases hf : 4096 < ys.length
  · rw [show txS xs lg ys = (xs, true) by unfold txS; rw [if_pos hf]]
    refine enter (L := [.sl b cap 5 1 (xs.map (Value.int .u8)), .blk go (.cells #[.slice b xs.length cap, .bool lg] 98 (0, 0))]) (X := feet (OutL go b cap xs lg)) Tryz.func48 rfl Tryz.ntmps48 rfl rfl hL0 ?_
    repeat (first | refine c_seq ?_ | (refine c_region (id := 0) ?_; refine sq qm ?_; refine sq qls ?_; refine sq (by first | exact dgtrt | exact dgtrf) ?_; refine l_nil ?_) | (refine c_region (id := 1) ?_; refine sq qm ?_; refine sq qn ?_; refine sq qf ?_; refine se ?_; (refine e_store1l rfl rfl rfl (by (repeat (first | exact List.Mem.head _ | apply List.Mem.tail))) (by first | (simp only [setL]; try exact rfl) | exact rfl) (by (repeat (first | exact Pl.here | apply Pl.there))) rfl (.inl (by simp [feet, OutL, Chunk.foot])) ?_); refine l_nil ?_) | refine n_then ?_ | refine c_block ?_ | refine c_skip ?_ | refine n_block ?_ | refine c_exit ?_ | refine n_then_exit ?_ | refine n_block_eq ?_ | refine n_block_ne rfl ?_ | refine c_ret ?_ | refine n_then_ret ?_ | refine n_block_ret ?_ | refine c_cond_t rfl ?_ | refine c_cond_f rfl ?_ | refine r_succ ?_ )
    (first | apply r_ret (b, cap) | apply r_end (b, cap)); exact rfl; exact rfl; exact .nil; exact rfl; exact (by exact (by (repeat (first | exact List.nil_sublist _ | exact List.Sublist.slnil | apply List.Sublist.cons_cons | exact List.Sublist.refl _ | apply List.Sublist.cons)))); exact (fun g hg => .inl hg); exact ho
  · rw [show txS xs lg ys = pS (pS xs lg (leb ys.length)).1 (pS xs lg (leb ys.length)).2 ys by unfold txS; rw [if_neg hf]]
    obtain ⟨x1, hx1⟩ : ∃ x1, x1 = (pS xs lg (leb ys.length)).1 := ⟨_, rfl⟩
    obtain ⟨l1, hl1⟩ : ∃ l1, l1 = (pS xs lg (leb ys.length)).2 := ⟨_, rfl⟩
    have hx1n : x1.length ≤ 16384 := by rw [hx1]; exact pS_len hxn
    have hx1b : ∀ x ∈ x1, 0 ≤ x ∧ x ≤ 255 := by rw [hx1]; exact pS_bd hxb (leb_bd _)
    rw [← hx1, ← hl1]
    refine enter (L := [.sl b cap 5 1 (xs.map (Value.int .u8)), .blk go (.cells #[.slice b xs.length cap, .bool lg] 98 (0, 0))]) (X := feet (OutL go b cap xs lg)) Tryz.func48 rfl Tryz.ntmps48 rfl rfl hL0 ?_
    repeat (first | refine c_seq ?_ | (refine c_region (id := 0) ?_; refine sq qm ?_; refine sq qls ?_; refine sq (by first | exact dgtrt | exact dgtrf) ?_; refine l_nil ?_) | refine n_then ?_ | refine c_block ?_ | refine c_skip ?_ | refine n_block ?_ | refine c_exit ?_ | refine n_then_exit ?_ | refine n_block_eq ?_ | refine n_block_ne rfl ?_ | refine c_ret ?_ | refine n_then_ret ?_ | refine n_block_ret ?_ | refine c_cond_t rfl ?_ | refine c_cond_f rfl ?_ | refine r_succ ?_ )
    repeat (first | refine c_seq ?_ | (refine c_region (id := 2) ?_; refine sq qm ?_; refine sq qm ?_; refine sq qls ?_; refine sq (by exact Qt.cast (v' := .int .u64 ((ys.length : Nat) : Int)) (congrArg (Value.int .u64) (by omega)) (q_convU rfl)) ?_; refine se ?_; refine e_callX (OutL go b cap xs lg) (fun z : Option Addr × Nat => [.sl z.1 z.2 5 1 (x1.map (Value.int .u8)), .blk go (.cells #[.slice z.1 x1.length z.2, .bool l1] 98 (0, 0))]) rfl rfl (by kernel_rfl) rfl (by (repeat (first | exact Sp.nil | (apply Sp.cons; focus (repeat (first | exact Rm.here | apply Rm.there)))))) (fun w hC hm hA hL hap => by have h9 := num_c go b cap xs lg hxb hxn ho w hA ys.length (by omega); rw [← hx1, ← hl1] at h9; exact h9) (fun g hg => .inl hg) (fun z => by rfl) ?_; rintro ⟨b2, cap2⟩ m2 ho2 hn2 hm2; dsimp only at ho2 hn2 ⊢; refine l_nil ?_) | refine n_then ?_ | refine c_block ?_ | refine c_skip ?_ | refine n_block ?_ | refine c_exit ?_ | refine n_then_exit ?_ | refine n_block_eq ?_ | refine n_block_ne rfl ?_ | refine c_ret ?_ | refine n_then_ret ?_ | refine n_block_ret ?_ | refine c_cond_t rfl ?_ | refine c_cond_f rfl ?_ | refine r_succ ?_ )
    repeat (first | refine c_seq ?_ | (refine c_region (id := 3) ?_; refine sq qm ?_; refine sq qm ?_; refine se ?_; refine e_callX (OutL go b2 cap2 x1 l1) (fun z : Option Addr × Nat => [.sl z.1 z.2 5 1 (((pS x1 l1 ys).1).map (Value.int .u8)), .blk go (.cells #[.slice z.1 ((pS x1 l1 ys).1).length z.2, .bool (pS x1 l1 ys).2] 98 (0, 0))]) rfl rfl (by kernel_rfl) rfl (by (repeat (first | exact Sp.nil | (apply Sp.cons; focus (repeat (first | exact Rm.here | apply Rm.there)))))) (fun w hC hm hA hL hap => by exact raw_c go b2 cap2 x1 l1 hx1b hx1n ho2 w hA ya yl yc ys hyl hyc hyb hyn (hys.chn hC hyg) (notNew hyg hys hn2)) hn2 (fun z => by rfl) ?_; rintro ⟨b1, cap1⟩ m1 ho1 hn1 hm1; dsimp only at ho1 hn1 ⊢; refine l_nil ?_) | refine n_then ?_ | refine c_block ?_ | refine c_skip ?_ | refine n_block ?_ | refine c_exit ?_ | refine n_then_exit ?_ | refine n_block_eq ?_ | refine n_block_ne rfl ?_ | refine c_ret ?_ | refine n_then_ret ?_ | refine n_block_ret ?_ | refine c_cond_t rfl ?_ | refine c_cond_f rfl ?_ | refine r_succ ?_ )
    (first | apply r_ret (b1, cap1) | apply r_end (b1, cap1)); exact rfl; exact rfl; exact .nil; exact rfl; exact (by exact (by (repeat (first | exact List.nil_sublist _ | exact List.Sublist.slnil | apply List.Sublist.cons_cons | exact List.Sublist.refl _ | apply List.Sublist.cons)))); exact hn1; exact ho1
set_option maxRecDepth 100000 in
set_option maxHeartbeats 4000000 in
theorem endok_c (go : Nat) (b : Option Addr) (cap : Nat) (xs : List Int) (hxn : xs.length ≤ 100000) (w : World) (hO : Old w go 0 [.slice b xs.length cap, .bool false]) (hs : SlE (Value.int .u8) w b xs) :
    CA Tryz.prog 49 [.pointer (some ⟨go, 0, none⟩)] w (Ret (fun z : Option Addr × Nat => .tuple #[.slice z.1 xs.length z.2, .int .i64 0]) [] (fun z => [.sl z.1 z.2 5 1 (xs.map (Value.int .u8))]) (fun z => OS [] 0 z.1 z.2 xs.length) w) := by
  refine enter (L := []) (X := []) Tryz.func49 rfl Tryz.ntmps49 rfl rfl (Has.nil _) ?_
  repeat (first | refine c_seq ?_ | (refine c_region (id := 0) ?_; refine sq qa ?_; refine sq qa ?_; refine l_nil ?_) | (refine c_region (id := 1) ?_; refine sq qm ?_; refine sq qn ?_; refine sq qf ?_; refine sq (by exact q_load rfl (Rd.oldn (j := 1) hO (by rfl) (by simp))) ?_; refine l_nil ?_) | (refine c_region (id := 3) ?_; refine sq qm ?_; refine sq qn ?_; refine sq qf ?_; refine sq qf ?_; refine sq (by exact q_load rfl (Rd.oldn (j := 0) hO (by rfl) (by simp))) ?_; refine se ?_; refine e_callL rfl rfl (by kernel_rfl) rfl (fun w hC hm hL => by exact bclone_c b xs.length cap xs rfl (by omega) w (hs.ch0 hC)) ?_; intro b1 cap1 zs m1 hz1 ho1 hm1; replace hz1 := hz1.symm; subst hz1; refine sq qa ?_; refine sq qa ?_; refine l_nil ?_) | refine n_then ?_ | refine c_block ?_ | refine c_skip ?_ | refine n_block ?_ | refine c_exit ?_ | refine n_then_exit ?_ | refine n_block_eq ?_ | refine n_block_ne rfl ?_ | refine c_ret ?_ | refine n_then_ret ?_ | refine n_block_ret ?_ | refine c_cond_t rfl ?_ | refine c_cond_f rfl ?_ | refine r_succ ?_ )
  (first | apply r_ret (b1, cap1) | apply r_end (b1, cap1)); exact rfl; exact rfl; exact (.tmp rfl (.tmp rfl .nil)); exact rfl; exact (by exact (by (repeat (first | exact List.nil_sublist _ | exact List.Sublist.slnil | apply List.Sublist.cons_cons | exact List.Sublist.refl _ | apply List.Sublist.cons)))); exact (new_sl ho1.newc new_nil); exact ho1.any
set_option maxRecDepth 100000 in
set_option maxHeartbeats 4000000 in
theorem endlong_c (go : Nat) (v : Value) (w : World) (hO : Old w go 0 [v, .bool true]) :
    CA Tryz.prog 49 [.pointer (some ⟨go, 0, none⟩)] w (RV (.tuple #[.slice none 0 0, .int .i64 3]) w) := by
  refine enter (L := []) (X := []) Tryz.func49 rfl Tryz.ntmps49 rfl rfl (Has.nil _) ?_
  repeat (first | refine c_seq ?_ | (refine c_region (id := 0) ?_; refine sq qa ?_; refine sq qa ?_; refine l_nil ?_) | (refine c_region (id := 1) ?_; refine sq qm ?_; refine sq qn ?_; refine sq qf ?_; refine sq (by exact q_load rfl (Rd.oldn (j := 1) hO (by rfl) (by simp))) ?_; refine l_nil ?_) | (refine c_region (id := 2) ?_; refine sq qa ?_; refine sq qa ?_; refine l_nil ?_) | refine n_then ?_ | refine c_block ?_ | refine c_skip ?_ | refine n_block ?_ | refine c_exit ?_ | refine n_then_exit ?_ | refine n_block_eq ?_ | refine n_block_ne rfl ?_ | refine c_ret ?_ | refine n_then_ret ?_ | refine n_block_ret ?_ | refine c_cond_t rfl ?_ | refine c_cond_f rfl ?_ | refine r_succ ?_ )
  (first | apply r_ret () | apply r_end ()); exact rfl; exact rfl; exact (.tmp rfl (.tmp rfl .nil)); exact rfl; exact (List.nil_sublist _); exact new_nil; exact trivial
end Go.Proofs.YtgmghkakiocmjaaGreatDoor
namespace Go.Proofs.YtgmghkakiocmjaaGreatDoor
open Go Go.RowKit
set_option linter.unusedVariables false
set_option linter.unusedSimpArgs false
abbrev InL (gi : Nat) (b : Option Addr) (cap : Nat) (xs : List Int) (lb : Option Addr) (ll lc : Nat) (bad : Bool) : List Chunk := [.sl b cap 5 1 (xs.map (Value.int .u8)), .blk gi (.cells #[.slice lb ll lc, .bool bad] 107 (0, 0))]
structure LV (b : Option Addr) (xs : List Int) (lb : Option Addr) (ll lc : Nat) : Prop where
  le : ll ≤ xs.length
  lc : ll ≤ lc
  at_ : 0 < ll → ∃ g, b = some ⟨g, 0, none⟩ ∧ lb = some ⟨g, xs.length - ll, none⟩
theorem LV.all {X : List Nat} {k : Nat} {b : Option Addr} {cap : Nat} {xs : List Int} (ho : OS X k b cap xs.length) : LV b xs b xs.length cap :=
  ⟨Nat.le_refl _, ho.le, fun h => by obtain ⟨g, rfl⟩ := ho.some h; exact ⟨g, rfl, by rw [Nat.sub_self]⟩⟩
theorem LV.cut {b lb : Option Addr} {xs : List Int} {ll lc : Nat} (h : LV b xs lb ll lc) (n : Nat) (hn : n ≤ ll) : LV b xs (if lc = n then lb else lb.map (·.add (n * 1))) (ll - n) (lc - n) := by
  refine ⟨by have := h.le; omega, by have := h.lc; omega, fun h0 => ?_⟩
  obtain ⟨g, e1, e2⟩ := h.at_ (by omega)
  refine ⟨g, e1, ?_⟩
  have := h.lc
  have := h.le
  rw [if_neg (by omega), e2]
  simp only [Option.map_some, Addr.add_mid, Nat.mul_one]
  congr 2
  omega
theorem LV.slE {b lb : Option Addr} {xs : List Int} {ll lc : Nat} (h : LV b xs lb ll lc) {w : World} (hs : SlE (Value.int .u8) w b xs) : SlE (Value.int .u8) w lb (xs.drop (xs.length - ll)) := by
  refine ⟨?_⟩
  rcases Nat.eq_zero_or_pos ll with h0 | h0
  · left; rw [h0, Nat.sub_zero, List.drop_length]
  · obtain ⟨g, e1, e2⟩ := h.at_ h0
    have hle := h.le
    obtain ⟨g2, o, e3, hO⟩ := hs.get (i := 0) (by omega)
    rw [e1] at e3
    cases e3
    right
    refine ⟨g, xs.length - ll, e2, ?_⟩
    have := hO.drp (xs.length - ll)
    rw [Nat.zero_add, ← List.map_drop] at this
    exact this
theorem LV.rest {b lb : Option Addr} {xs : List Int} {ll lc : Nat} (h : LV b xs lb ll lc) : (xs.drop (xs.length - ll)).length = ll := by have := h.le; simp; omega
set_option maxRecDepth 100000 in
set_option maxHeartbeats 4000000 in
theorem read_c (a : Option Addr) (len cap0 : Nat) (xs : List Int) (hxl : xs.length = len) (hbig : len ≤ 100000) (w : World) (hs : SlE (Value.int .u8) w a xs) :
    CA Tryz.prog 38 [.slice a len cap0] w (Ret (fun z : Nat × Option Addr × Nat => .pointer (some ⟨z.1, 0, none⟩)) [] (fun z => [.sl z.2.1 z.2.2 5 1 (xs.map (Value.int .u8)), .blk z.1 (.cells #[.slice z.2.1 xs.length z.2.2, .bool false] 107 (0, 0))]) (fun z => OS [] 0 z.2.1 z.2.2 xs.length) w) := by
  refine enter (L := []) (X := []) Tryz.func38 rfl Tryz.ntmps38 rfl rfl (Has.nil _) ?_
  repeat (first | refine c_seq ?_ | (refine c_region (id := 0) ?_; refine sq qa ?_; refine l_nil ?_) | (refine c_region (id := 1) ?_; refine sq qm ?_; refine se ?_; refine e_callL rfl rfl (by kernel_rfl) rfl (fun w hC hm hL => by exact bclone_c a len cap0 xs hxl (by omega) w (hs.ch0 hC)) ?_; intro b1 cap1 zs m1 hz1 ho1 hm1; replace hz1 := hz1.symm; subst hz1; refine sq qbs ?_; refine se ?_; refine eb ?_; refine sq qa ?_; refine l_nil ?_) | refine n_then ?_ | refine c_block ?_ | refine c_skip ?_ | refine n_block ?_ | refine c_exit ?_ | refine n_then_exit ?_ | refine n_block_eq ?_ | refine n_block_ne rfl ?_ | refine c_ret ?_ | refine n_then_ret ?_ | refine n_block_ret ?_ | refine c_cond_t rfl ?_ | refine c_cond_f rfl ?_ | refine r_succ ?_ )
  refine frn (c := .sl b1 cap1 5 1 (xs.map (Value.int .u8))) (by (repeat (first | exact Rm.here | apply Rm.there))) ?_
  (first | apply r_ret (m1, b1, cap1) | apply r_end (m1, b1, cap1)); exact rfl; exact rfl; exact (.tmp rfl .nil); exact rfl; exact (by exact (by (repeat (first | exact List.nil_sublist _ | exact List.Sublist.slnil | apply List.Sublist.cons_cons | exact List.Sublist.refl _ | apply List.Sublist.cons)))); exact (new_sl ho1.newc (new_blk (.inr hm1) new_nil)); exact ho1.any
set_option maxRecDepth 100000 in
set_option maxHeartbeats 4000000 in
theorem bad_c (gi : Nat) (v : Value) (bad : Bool) (w : World) (hO : Old w gi 0 [v, .bool bad]) : CA Tryz.prog 41 [.pointer (some ⟨gi, 0, none⟩)] w (RV (.bool bad) w) := by
  refine enter (L := []) (X := []) Tryz.func41 rfl Tryz.ntmps41 rfl rfl (Has.nil _) ?_
  repeat (first | refine c_seq ?_ | (refine c_region (id := 0) ?_; refine sq qa ?_; refine l_nil ?_) | (refine c_region (id := 1) ?_; refine sq qm ?_; refine sq qn ?_; refine sq qf ?_; refine sq (by exact q_load rfl (Rd.oldn (j := 1) hO (by rfl) (by simp))) ?_; refine sq qa ?_; refine l_nil ?_) | refine n_then ?_ | refine c_block ?_ | refine c_skip ?_ | refine n_block ?_ | refine c_exit ?_ | refine n_then_exit ?_ | refine n_block_eq ?_ | refine n_block_ne rfl ?_ | refine c_ret ?_ | refine n_then_ret ?_ | refine n_block_ret ?_ | refine c_cond_t rfl ?_ | refine c_cond_f rfl ?_ | refine r_succ ?_ )
  (first | apply r_ret () | apply r_end ()); exact rfl; exact rfl; exact (.tmp rfl .nil); exact rfl; exact (List.nil_sublist _); exact new_nil; exact trivial
set_option maxRecDepth 100000 in
set_option maxHeartbeats 4000000 in
theorem left_c (gi : Nat) (lb : Option Addr) (ll lc : Nat) (bad : Bool) (w : World) (hO : Old w gi 0 [.slice lb ll lc, .bool bad]) : CA Tryz.prog 39 [.pointer (some ⟨gi, 0, none⟩)] w (RV (.int .i64 (ll : Int)) w) := by
  refine enter (L := []) (X := []) Tryz.func39 rfl Tryz.ntmps39 rfl rfl (Has.nil _) ?_
  repeat (first | refine c_seq ?_ | (refine c_region (id := 0) ?_; refine sq qa ?_; refine l_nil ?_) | (refine c_region (id := 1) ?_; refine sq qm ?_; refine sq qn ?_; refine sq qf ?_; refine sq (by exact q_load rfl (Rd.oldn (j := 0) hO (by rfl) (by simp))) ?_; refine sq qls ?_; refine sq qa ?_; refine l_nil ?_) | refine n_then ?_ | refine c_block ?_ | refine c_skip ?_ | refine n_block ?_ | refine c_exit ?_ | refine n_then_exit ?_ | refine n_block_eq ?_ | refine n_block_ne rfl ?_ | refine c_ret ?_ | refine n_then_ret ?_ | refine n_block_ret ?_ | refine c_cond_t rfl ?_ | refine c_cond_f rfl ?_ | refine r_succ ?_ )
  (first | apply r_ret () | apply r_end ()); exact rfl; exact rfl; exact (.tmp rfl .nil); exact rfl; exact (List.nil_sublist _); exact new_nil; exact trivial
theorem pre_sl {w : World} {lb : Option Addr} {ys : List Int} {n lc : Nat} (hs : SlE (Value.int .u8) w lb ys) : SlE (Value.int .u8) w (if lc = 0 then lb else lb.map (·.add (0 * 1))) (ys.take n) := by
  have e : (if lc = 0 then lb else lb.map (·.add (0 * 1))) = lb ∨ ys.take n = [] := by
    rcases hs.h with h | ⟨g, o, e, _⟩
    · right; rw [h]; exact List.take_nil
    · left; rw [e]; split <;> rfl
  rcases e with e | e
  · rw [e]
    exact ⟨hs.h.imp (fun h => by rw [h]; exact List.take_nil) (fun ⟨g, o, e, hO⟩ => ⟨g, o, e, by rw [List.map_take]; exact hO.tak n⟩)⟩
  · rw [e]; exact SlE.nil
set_option maxRecDepth 100000 in
set_option maxHeartbeats 4000000 in
theorem iraw_c (gi : Nat) (b : Option Addr) (cap : Nat) (xs : List Int) (hxb : ∀ x ∈ xs, 0 ≤ x ∧ x ≤ 255) (hxn : xs.length ≤ 100000) (lb : Option Addr) (ll lc : Nat) (bad : Bool) (hv : LV b xs lb ll lc) (w : World) (ho : OS [] 0 b cap xs.length) (hL0 : Has (InL gi b cap xs lb ll lc false) w) (n : Nat) (hn : n ≤ ll) :
    CA Tryz.prog 61 [.pointer (some ⟨gi, 0, none⟩), .int .i64 (n : Int)] w (Ret (fun z : Option Addr × Nat × Option Addr => .slice z.1 n z.2.1) (feet (InL gi b cap xs lb ll lc false)) (fun z => .sl z.1 z.2.1 5 1 (((xs.drop (xs.length - ll)).take n).map (Value.int .u8)) :: InL gi b cap xs z.2.2 (ll - n) (lc - n) false) (fun z => OS [] 0 z.1 z.2.1 n ∧ LV b xs z.2.2 (ll - n) (lc - n)) w) := by
  have hlc := hv.lc
  have hle := hv.le
  have hpre : ∀ {w : World}, SlE (Value.int .u8) w lb (xs.drop (xs.length - ll)) → SlE (Value.int .u8) w (if lc = 0 then lb else lb.map (·.add (0 * 1))) ((xs.drop (xs.length - ll)).take n) := fun h => pre_sl h
  have htl : ((xs.drop (xs.length - ll)).take n).length = n := by rw [List.length_take, hv.rest]; omega
  refine enter (L := [.sl b cap 5 1 (xs.map (Value.int .u8)), .blk gi (.cells #[.slice lb ll lc, .bool false] 107 (0, 0))]) (X := feet (InL gi b cap xs lb ll lc false)) Tryz.func61 rfl Tryz.ntmps61 rfl rfl hL0 ?_
  repeat (first | refine c_seq ?_ | (refine c_region (id := 0) ?_; refine sq qa ?_; refine l_nil ?_) | (refine c_region (id := 1) ?_; refine sq qm ?_; refine sq qn ?_; refine sq qf ?_; refine sq ql ?_; refine sq qm ?_; (first | refine sk ?_ | refine skv ?_ | (refine st_want rfl rfl ?_; refine sq qm ?_)); (first | refine sk ?_ | refine skv ?_ | (refine st_want rfl rfl ?_; refine sq (by first | exact dlsst | exact dlssf) ?_)); refine sq (by first | exact qpt | exact qpf) ?_; refine sq qm ?_; (first | refine sk ?_ | refine skv ?_ | (refine st_want rfl rfl ?_; refine sq qm ?_)); (first | refine sk ?_ | refine skv ?_ | (refine st_want rfl rfl ?_; refine sq qm ?_)); (first | refine sk ?_ | refine skv ?_ | (refine st_want rfl rfl ?_; refine sq qn ?_)); (first | refine sk ?_ | refine skv ?_ | (refine st_want rfl rfl ?_; refine sq qf ?_)); (first | refine sk ?_ | refine skv ?_ | (refine st_want rfl rfl ?_; refine sq ql ?_)); (first | refine sk ?_ | refine skv ?_ | (refine st_want rfl rfl ?_; refine sq qls ?_)); (first | refine sk ?_ | refine skv ?_ | (refine st_want rfl rfl ?_; refine sq (by first | exact dgtrt | exact dgtrf) ?_)); refine sq (by first | exact qpt | exact qpf) ?_; refine l_nil ?_) | (refine c_region (id := 4) ?_; refine sq qm ?_; refine sq qn ?_; refine sq qf ?_; refine sq ql ?_; refine sq qm ?_; refine sq (by exact q_slice (b' := (if lc = 0 then lb else lb.map (·.add (0 * 1)))) (len' := n) (cap' := lc) rfl rfl rfl (by omega) (by omega) (by omega) (by omega) (by rfl) (by omega) (by omega)) ?_; refine se ?_; refine e_callL rfl rfl (by kernel_rfl) rfl (fun w hC hm hL => by exact bclone_c (if lc = 0 then lb else lb.map (·.add (0 * 1))) n lc ((xs.drop (xs.length - ll)).take n) (by rw [List.length_take, hv.rest]; omega) (by omega) w (hpre (hv.slE (SlE.own hL (by (repeat (first | exact List.Mem.head _ | apply List.Mem.tail))) ho)))) ?_; intro b1 cap1 zs m1 hz1 ho1 hm1; replace hz1 := hz1.symm; subst hz1; refine sq qa ?_; refine l_nil ?_) | refine n_then ?_ | refine c_block ?_ | refine c_skip ?_ | refine n_block ?_ | refine c_exit ?_ | refine n_then_exit ?_ | refine n_block_eq ?_ | refine n_block_ne rfl ?_ | refine c_ret ?_ | refine n_then_ret ?_ | refine n_block_ret ?_ | refine c_cond_t rfl ?_ | refine c_cond_f rfl ?_ | refine r_succ ?_ )
  rw [htl] at ho1 ⊢
  repeat (first | refine c_seq ?_ | (refine c_region (id := 5) ?_; refine sq qm ?_; refine sq qm ?_; refine sq qn ?_; refine sq qf ?_; refine sq ql ?_; refine sq qm ?_; refine sq (by exact q_slice (b' := (if lc = n then lb else lb.map (·.add (n * 1)))) (len' := ll - n) (cap' := lc - n) rfl rfl rfl (by omega) (by omega) (by omega) (by omega) (by rw [Int.toNat_natCast]) (by omega) (by omega)) ?_; refine sq qn ?_; refine sq qf ?_; refine se ?_; (refine e_store1l rfl rfl rfl (by (repeat (first | exact List.Mem.head _ | apply List.Mem.tail))) (by first | (simp only [setL]; try exact rfl) | exact rfl) (by (repeat (first | exact Pl.here | apply Pl.there))) rfl (.inl (by simp [feet, InL, Chunk.foot])) ?_); refine l_nil ?_) | (refine c_region (id := 6) ?_; refine sq qm ?_; refine sq qa ?_; refine l_nil ?_) | refine n_then ?_ | refine c_block ?_ | refine c_skip ?_ | refine n_block ?_ | refine c_exit ?_ | refine n_then_exit ?_ | refine n_block_eq ?_ | refine n_block_ne rfl ?_ | refine c_ret ?_ | refine n_then_ret ?_ | refine n_block_ret ?_ | refine c_cond_t rfl ?_ | refine c_cond_f rfl ?_ | refine r_succ ?_ )
  (first | apply r_ret (b1, cap1, if lc = n then lb else lb.map (·.add (n * 1))) | apply r_end (b1, cap1, if lc = n then lb else lb.map (·.add (n * 1)))); exact rfl; exact rfl; exact (.tmp rfl .nil); exact rfl; exact (by exact (by (repeat (first | exact List.nil_sublist _ | exact List.Sublist.slnil | apply List.Sublist.cons_cons | exact List.Sublist.refl _ | apply List.Sublist.cons)))); exact (new_sl ho1.newc (new_sl (fun g hg => .inl (by simp [feet, InL, hg])) (new_blk (.inl (by simp [feet, InL, Chunk.foot])) new_nil))); exact ⟨ho1.any, hv.cut n hn⟩
end Go.Proofs.YtgmghkakiocmjaaGreatDoor
namespace Go.Proofs.YtgmghkakiocmjaaGreatDoor
open Go Go.RowKit
set_option linter.unusedVariables false
set_option linter.unusedSimpArgs false
def numF : List Int → Nat → Nat → Nat × Nat
  | [], _, _ => (0, 0)
  | b :: bs, n, x =>
    if b.toNat < 128 then
      if b.toNat = 0 ∧ 0 < n then (0, 0)
      else if n = 9 ∧ 1 < b.toNat then (0, 0)
      else (x + b.toNat * 128 ^ n, n + 1)
    else if n = 9 then (0, 0)
    else numF bs (n + 1) (x + b.toNat % 128 * 128 ^ n)
def numX (ys : List Int) : Nat × Nat := numF ys 0 0
theorem or_join (x c n : Nat) (hx : x < 128 ^ n) (hn : n ≤ 9) (hc : c < 128) (h9 : n = 9 → c ≤ 1) : bits .or .u64 (x : Int) (((c : Nat) : Int) * 2 ^ ((7 * (n : Int)).toNat) % 18446744073709551616) = ((x + c * 128 ^ n : Nat) : Int) := by
  have e1 : (7 * (n : Int)).toNat = 7 * n := by omega
  have e2 : (2 : Nat) ^ (7 * n) = 128 ^ n := by rw [Nat.pow_mul]
  have hcb : c * 128 ^ n < 18446744073709551616 ∧ x < 18446744073709551616 := by
    rcases Nat.lt_or_ge n 9 with h | h
    · have h1 : 128 ^ n ≤ 128 ^ 8 := Nat.pow_le_pow_right (by omega) (by omega)
      have h2 : (128 : Nat) ^ 8 = 72057594037927936 := by decide
      have h3 : c * 128 ^ n ≤ 127 * 128 ^ n := Nat.mul_le_mul_right _ (by omega)
      omega
    · obtain rfl : n = 9 := by omega
      have h2 : (128 : Nat) ^ 9 = 9223372036854775808 := by decide
      have h3 : c * 128 ^ 9 ≤ 1 * 128 ^ 9 := Nat.mul_le_mul_right _ (h9 rfl)
      rw [h2] at hx h3 ⊢
      omega
  have e3 : ((c : Nat) : Int) * 2 ^ ((7 * (n : Int)).toNat) % 18446744073709551616 = ((c * 128 ^ n : Nat) : Int) := by
    rw [e1, ← e2]
    have := hcb.1
    rw [← e2] at this
    have h5 : ((c : Nat) : Int) * 2 ^ (7 * n) = ((c * 2 ^ (7 * n) : Nat) : Int) := by push_cast; rfl
    rw [h5]
    omega
  rw [e3, u64_or_nat x (c * 128 ^ n) hcb.2 hcb.1]
  congr 1
  rw [Nat.or_comm, nat_join (7 * n) (c * 128 ^ n) x (by rw [e2]; exact Nat.mul_mod_left _ _) (by rw [e2]; exact hx), Nat.add_comm]
theorem pow_lt_step {x c n : Nat} (hx : x < 128 ^ n) (hc : c < 128) : x + c * 128 ^ n < 128 ^ (n + 1) := by
  have h3 : c * 128 ^ n ≤ 127 * 128 ^ n := Nat.mul_le_mul_right _ (by omega)
  rw [Nat.pow_succ]
  omega
theorem drop_get {ys : List Int} {i : Nat} (h : i < ys.length) : ys.drop i = ys.getD i 0 :: ys.drop (i + 1) := by
  rw [List.drop_eq_getElem_cons h, List.getD_eq_getElem?_getD, List.getElem?_eq_getElem h]; rfl
set_option maxRecDepth 100000 in
set_option maxHeartbeats 4000000 in
theorem number_c (gi : Nat) (lb : Option Addr) (ll lc : Nat) (ys : List Int) (hyl : ys.length = ll) (hyb : ∀ y ∈ ys, 0 ≤ y ∧ y ≤ 255) (hyn : ll ≤ 100000) (w : World) (hO : Old w gi 0 [.slice lb ll lc, .bool false]) (hs : SlE (Value.int .u8) w lb ys) :
    CA Tryz.prog 60 [.pointer (some ⟨gi, 0, none⟩)] w (RV (.tuple #[.int .u64 ((numX ys).1 : Int), .int .i64 ((numX ys).2 : Int)]) w) := by
  refine enter (L := []) (X := []) Tryz.func60 rfl Tryz.ntmps60 rfl rfl (Has.nil _) ?_
  repeat (first | refine c_seq ?_ | (refine c_region (id := 0) ?_; refine sq qa ?_; refine sq qa ?_; refine l_nil ?_) | (refine c_region (id := 1) ?_; refine sq qm ?_; refine sq qn ?_; refine sq qf ?_; refine sq (by exact q_load rfl (Rd.oldn (j := 1) hO (by rfl) (by simp))) ?_; refine l_nil ?_) | (refine c_region (id := 3) ?_; refine sq qa ?_; refine l_nil ?_) | (refine c_region (id := 4) ?_; refine sq qm ?_; refine sq qn ?_; refine sq qf ?_; refine sq (by exact q_load rfl (Rd.oldn (j := 0) hO (by rfl) (by simp))) ?_; refine sq qls ?_; refine sq qm ?_; refine l_nil ?_) | refine n_then ?_ | refine c_block ?_ | refine c_skip ?_ | refine n_block ?_ | refine c_exit ?_ | refine n_then_exit ?_ | refine n_block_eq ?_ | refine n_block_ne rfl ?_ | refine c_ret ?_ | refine n_then_ret ?_ | refine n_block_ret ?_ | refine c_cond_t rfl ?_ | refine c_cond_f rfl ?_ | refine r_succ ?_ )
  refine c_loop (γ := Nat × Nat) (fun z => [(17, .int .i64 ((z.1 : Nat) : Int)), (16, .int .i64 (ll : Int)), (15, .slice lb ll lc), (4, .int .u64 ((z.2 : Nat) : Int)), (3, .int .i64 0), (2, .int .u64 0)]) (fun _ => w.heap.size) (fun _ => []) (fun z => z.1 ≤ ll ∧ numX ys = numF (ys.drop z.1) z.1 z.2 ∧ z.2 < 128 ^ z.1 ∧ z.1 ≤ 9) (fun z => ll - z.1) ⟨0, 0⟩ ⟨by omega, rfl, by simp, by simp⟩ ⟨rfl, rfl, rfl, rfl, rfl, rfl, trivial⟩ rfl (by (repeat (first | exact List.nil_sublist _ | exact List.Sublist.slnil | apply List.Sublist.cons_cons | exact List.Sublist.refl _ | apply List.Sublist.cons))) ?_
  rintro ⟨i, x⟩ ⟨hi, hnx, hxi, hi9⟩
  dsimp only at hi hnx hxi hi9 ⊢
  by_cases h1 : i < ll
  · obtain ⟨g, o, rfl, hOk⟩ := hs.get (i := i) (by omega)
    obtain ⟨y, hye⟩ : ∃ y, y = ys.getD i 0 := ⟨_, rfl⟩
    have hyi : ys[i]? = some y := by rw [hye, List.getD_eq_getElem?_getD, List.getElem?_eq_getElem (by omega), Option.getD_some]
    have hy0 := hyb y (List.mem_of_getElem? hyi)
    obtain ⟨c, rfl⟩ : ∃ c : Nat, y = (c : Int) := ⟨y.toNat, by omega⟩
    have hc : c ≤ 255 := by omega
    have hz : nth (ys.map (Value.int .u8)) i = some (.int .u8 (c : Int)) := nth_map hyi
    have hst : numF (ys.drop i) i x = if c < 128 then if c = 0 ∧ 0 < i then (0, 0) else if i = 9 ∧ 1 < c then (0, 0) else (x + c * 128 ^ i, i + 1) else if i = 9 then (0, 0) else numF (ys.drop (i + 1)) (i + 1) (x + c % 128 * 128 ^ i) := by
      rw [drop_get (by omega), ← hye]; simp only [numF, Int.toNat_natCast]
    rw [hst] at hnx
    by_cases hlt : c < 128
    · rw [if_pos hlt] at hnx
      by_cases hz0 : c = 0 ∧ 0 < i
      · rw [if_pos hz0] at hnx
        obtain ⟨hz1, hz2⟩ := hz0
        rw [hnx]
        repeat (first | refine c_seq ?_ | (refine c_region (id := 5) ?_; refine sq (by first | exact dlsst | exact dlssf) ?_; refine l_nil ?_) | (refine c_region (id := 6) ?_; refine sq qm ?_; refine sq (by exact q_indexAddr_sl (o' := o + i) rfl rfl (by omega) (by omega) (by omega)) ?_; refine sq ql ?_; refine sq qa ?_; refine sq qa ?_; refine l_nil ?_) | (refine c_region (id := 7) ?_; refine sq qm ?_; refine sq (by first | exact dlsst | exact dlssf) ?_; refine sq qa ?_; refine l_nil ?_) | (refine c_region (id := 8) ?_; refine sq qm ?_; refine sq qm ?_; (first | refine sk ?_ | refine skv ?_ | (refine st_want rfl rfl ?_; refine sq qm ?_)); (first | refine sk ?_ | refine skv ?_ | (refine st_want rfl rfl ?_; refine sq (by first | exact deqlt | exact deqlf) ?_)); refine sq (by first | exact qpt | exact qpf) ?_; refine sq qm ?_; (first | refine sk ?_ | refine skv ?_ | (refine st_want rfl rfl ?_; refine sq qm ?_)); (first | refine sk ?_ | refine skv ?_ | (refine st_want rfl rfl ?_; refine sq (by first | exact dgtrt | exact dgtrf) ?_)); refine sq (by first | exact qpt | exact qpf) ?_; refine sq qa ?_; refine l_nil ?_) | (refine c_region (id := 9) ?_; refine sq qa ?_; refine sq qa ?_; refine l_nil ?_) | refine n_then ?_ | refine c_block ?_ | refine c_skip ?_ | refine n_block ?_ | refine c_exit ?_ | refine n_then_exit ?_ | refine n_block_eq ?_ | refine n_block_ne rfl ?_ | refine c_ret ?_ | refine n_then_ret ?_ | refine n_block_ret ?_ | refine c_cond_t rfl ?_ | refine c_cond_f rfl ?_ | refine r_succ ?_ )
        (first | apply r_ret () | apply r_end ()); exact rfl; exact rfl; exact (.tmp rfl (.tmp rfl .nil)); exact rfl; exact (List.nil_sublist _); exact new_nil; exact trivial
      · rw [if_neg hz0] at hnx
        by_cases h9 : i = 9 ∧ 1 < c
        · rw [if_pos h9] at hnx
          obtain ⟨h91, h92⟩ := h9
          rw [hnx]
          repeat (first | refine c_seq ?_ | (refine c_region (id := 5) ?_; refine sq (by first | exact dlsst | exact dlssf) ?_; refine l_nil ?_) | (refine c_region (id := 6) ?_; refine sq qm ?_; refine sq (by exact q_indexAddr_sl (o' := o + i) rfl rfl (by omega) (by omega) (by omega)) ?_; refine sq ql ?_; refine sq qa ?_; refine sq qa ?_; refine l_nil ?_) | (refine c_region (id := 7) ?_; refine sq qm ?_; refine sq (by first | exact dlsst | exact dlssf) ?_; refine sq qa ?_; refine l_nil ?_) | (refine c_region (id := 8) ?_; refine sq qm ?_; refine sq qm ?_; (first | refine sk ?_ | refine skv ?_ | (refine st_want rfl rfl ?_; refine sq qm ?_)); (first | refine sk ?_ | refine skv ?_ | (refine st_want rfl rfl ?_; refine sq (by first | exact deqlt | exact deqlf) ?_)); refine sq (by first | exact qpt | exact qpf) ?_; refine sq qm ?_; (first | refine sk ?_ | refine skv ?_ | (refine st_want rfl rfl ?_; refine sq qm ?_)); (first | refine sk ?_ | refine skv ?_ | (refine st_want rfl rfl ?_; refine sq (by first | exact dgtrt | exact dgtrf) ?_)); refine sq (by first | exact qpt | exact qpf) ?_; refine sq qa ?_; refine l_nil ?_) | (refine c_region (id := 10) ?_; refine sq qm ?_; refine sq (by first | exact deqlt | exact deqlf) ?_; refine sq qm ?_; (first | refine sk ?_ | refine skv ?_ | (refine st_want rfl rfl ?_; refine sq qm ?_)); (first | refine sk ?_ | refine skv ?_ | (refine st_want rfl rfl ?_; refine sq (by first | exact dgtrt | exact dgtrf) ?_)); refine sq (by first | exact qpt | exact qpf) ?_; refine sq qa ?_; refine l_nil ?_) | (refine c_region (id := 11) ?_; refine sq qa ?_; refine sq qa ?_; refine l_nil ?_) | refine n_then ?_ | refine c_block ?_ | refine c_skip ?_ | refine n_block ?_ | refine c_exit ?_ | refine n_then_exit ?_ | refine n_block_eq ?_ | refine n_block_ne rfl ?_ | refine c_ret ?_ | refine n_then_ret ?_ | refine n_block_ret ?_ | refine c_cond_t rfl ?_ | refine c_cond_f rfl ?_ | refine r_succ ?_ )
          (first | apply r_ret () | apply r_end ()); exact rfl; exact rfl; exact (.tmp rfl (.tmp rfl .nil)); exact rfl; exact (List.nil_sublist _); exact new_nil; exact trivial
        · rw [if_neg h9] at hnx
          have hc9 : i = 9 → c % 128 ≤ 1 := fun h => by omega
          have hcm : c % 128 = c := by omega
          rw [hnx]
          by_cases hc0 : c = 0
          · have hi0 : i = 0 := by omega
            repeat (first | refine c_seq ?_ | (refine c_region (id := 5) ?_; refine sq (by first | exact dlsst | exact dlssf) ?_; refine l_nil ?_) | (refine c_region (id := 6) ?_; refine sq qm ?_; refine sq (by exact q_indexAddr_sl (o' := o + i) rfl rfl (by omega) (by omega) (by omega)) ?_; refine sq ql ?_; refine sq qa ?_; refine sq qa ?_; refine l_nil ?_) | (refine c_region (id := 7) ?_; refine sq qm ?_; refine sq (by first | exact dlsst | exact dlssf) ?_; refine sq qa ?_; refine l_nil ?_) | (refine c_region (id := 8) ?_; refine sq qm ?_; refine sq qm ?_; (first | refine sk ?_ | refine skv ?_ | (refine st_want rfl rfl ?_; refine sq qm ?_)); (first | refine sk ?_ | refine skv ?_ | (refine st_want rfl rfl ?_; refine sq (by first | exact deqlt | exact deqlf) ?_)); refine sq (by first | exact qpt | exact qpf) ?_; refine sq qm ?_; (first | refine sk ?_ | refine skv ?_ | (refine st_want rfl rfl ?_; refine sq qm ?_)); (first | refine sk ?_ | refine skv ?_ | (refine st_want rfl rfl ?_; refine sq (by first | exact dgtrt | exact dgtrf) ?_)); refine sq (by first | exact qpt | exact qpf) ?_; refine sq qa ?_; refine l_nil ?_) | (refine c_region (id := 10) ?_; refine sq qm ?_; refine sq (by first | exact deqlt | exact deqlf) ?_; refine sq qm ?_; (first | refine sk ?_ | refine skv ?_ | (refine st_want rfl rfl ?_; refine sq qm ?_)); (first | refine sk ?_ | refine skv ?_ | (refine st_want rfl rfl ?_; refine sq (by first | exact dgtrt | exact dgtrf) ?_)); refine sq (by first | exact qpt | exact qpf) ?_; refine sq qa ?_; refine l_nil ?_) | (refine c_region (id := 12) ?_; refine sq qm ?_; refine sq qm ?_; refine sq (by exact Qt.cast (v' := .int .u8 ((c % 128 : Nat) : Int)) (congrArg (Value.int .u8) (by omega)) (q_rem rfl rfl (by omega) (by omega))) ?_; refine sq (by exact Qt.cast (v' := .int .u64 ((c % 128 : Nat) : Int)) (congrArg (Value.int .u64) (by omega)) (q_convU rfl)) ?_; refine sq qm ?_; refine sq qmul64 ?_; refine sq (by exact q_shlU rfl rfl (by omega) (by omega)) ?_; refine sq (by exact Qt.cast (v' := .int .u64 ((x + c % 128 * 128 ^ i : Nat) : Int)) (congrArg (Value.int .u64) (or_join x (c % 128) i hxi hi9 (by omega) hc9)) (q_or rfl rfl)) ?_; refine sq qa ?_; refine l_nil ?_) | refine n_then ?_ | refine c_block ?_ | refine c_skip ?_ | refine n_block ?_ | refine c_exit ?_ | refine n_then_exit ?_ | refine n_block_eq ?_ | refine n_block_ne rfl ?_ | refine c_ret ?_ | refine n_then_ret ?_ | refine n_block_ret ?_ | refine c_cond_t rfl ?_ | refine c_cond_f rfl ?_ | refine r_succ ?_ )
            rw [hcm]
            repeat (first | refine c_seq ?_ | (refine c_region (id := 13) ?_; refine sq qm ?_; refine l_nil ?_) | (refine c_region (id := 14) ?_; refine sq qm ?_; refine sq qm ?_; refine sq (by exact Qt.cast (v' := .int .i64 ((i + 1 : Nat) : Int)) (congrArg (Value.int .i64) (by omega)) (q_add64 rfl rfl ⟨by omega, by omega⟩ rfl)) ?_; refine sq qa ?_; refine sq qa ?_; refine l_nil ?_) | refine n_then ?_ | refine c_block ?_ | refine c_skip ?_ | refine n_block ?_ | refine c_exit ?_ | refine n_then_exit ?_ | refine n_block_eq ?_ | refine n_block_ne rfl ?_ | refine c_ret ?_ | refine n_then_ret ?_ | refine n_block_ret ?_ | refine c_cond_t rfl ?_ | refine c_cond_f rfl ?_ | refine r_succ ?_ )
            (first | apply r_ret () | apply r_end ()); exact rfl; exact rfl; exact (.tmp rfl (.tmp rfl .nil)); exact rfl; exact (List.nil_sublist _); exact new_nil; exact trivial
          · by_cases hi9e : i = 9
            · repeat (first | refine c_seq ?_ | (refine c_region (id := 5) ?_; refine sq (by first | exact dlsst | exact dlssf) ?_; refine l_nil ?_) | (refine c_region (id := 6) ?_; refine sq qm ?_; refine sq (by exact q_indexAddr_sl (o' := o + i) rfl rfl (by omega) (by omega) (by omega)) ?_; refine sq ql ?_; refine sq qa ?_; refine sq qa ?_; refine l_nil ?_) | (refine c_region (id := 7) ?_; refine sq qm ?_; refine sq (by first | exact dlsst | exact dlssf) ?_; refine sq qa ?_; refine l_nil ?_) | (refine c_region (id := 8) ?_; refine sq qm ?_; refine sq qm ?_; (first | refine sk ?_ | refine skv ?_ | (refine st_want rfl rfl ?_; refine sq qm ?_)); (first | refine sk ?_ | refine skv ?_ | (refine st_want rfl rfl ?_; refine sq (by first | exact deqlt | exact deqlf) ?_)); refine sq (by first | exact qpt | exact qpf) ?_; refine sq qm ?_; (first | refine sk ?_ | refine skv ?_ | (refine st_want rfl rfl ?_; refine sq qm ?_)); (first | refine sk ?_ | refine skv ?_ | (refine st_want rfl rfl ?_; refine sq (by first | exact dgtrt | exact dgtrf) ?_)); refine sq (by first | exact qpt | exact qpf) ?_; refine sq qa ?_; refine l_nil ?_) | (refine c_region (id := 10) ?_; refine sq qm ?_; refine sq (by first | exact deqlt | exact deqlf) ?_; refine sq qm ?_; (first | refine sk ?_ | refine skv ?_ | (refine st_want rfl rfl ?_; refine sq qm ?_)); (first | refine sk ?_ | refine skv ?_ | (refine st_want rfl rfl ?_; refine sq (by first | exact dgtrt | exact dgtrf) ?_)); refine sq (by first | exact qpt | exact qpf) ?_; refine sq qa ?_; refine l_nil ?_) | (refine c_region (id := 12) ?_; refine sq qm ?_; refine sq qm ?_; refine sq (by exact Qt.cast (v' := .int .u8 ((c % 128 : Nat) : Int)) (congrArg (Value.int .u8) (by omega)) (q_rem rfl rfl (by omega) (by omega))) ?_; refine sq (by exact Qt.cast (v' := .int .u64 ((c % 128 : Nat) : Int)) (congrArg (Value.int .u64) (by omega)) (q_convU rfl)) ?_; refine sq qm ?_; refine sq qmul64 ?_; refine sq (by exact q_shlU rfl rfl (by omega) (by omega)) ?_; refine sq (by exact Qt.cast (v' := .int .u64 ((x + c % 128 * 128 ^ i : Nat) : Int)) (congrArg (Value.int .u64) (or_join x (c % 128) i hxi hi9 (by omega) hc9)) (q_or rfl rfl)) ?_; refine sq qa ?_; refine l_nil ?_) | refine n_then ?_ | refine c_block ?_ | refine c_skip ?_ | refine n_block ?_ | refine c_exit ?_ | refine n_then_exit ?_ | refine n_block_eq ?_ | refine n_block_ne rfl ?_ | refine c_ret ?_ | refine n_then_ret ?_ | refine n_block_ret ?_ | refine c_cond_t rfl ?_ | refine c_cond_f rfl ?_ | refine r_succ ?_ )
              rw [hcm]
              repeat (first | refine c_seq ?_ | (refine c_region (id := 13) ?_; refine sq qm ?_; refine l_nil ?_) | (refine c_region (id := 14) ?_; refine sq qm ?_; refine sq qm ?_; refine sq (by exact Qt.cast (v' := .int .i64 ((i + 1 : Nat) : Int)) (congrArg (Value.int .i64) (by omega)) (q_add64 rfl rfl ⟨by omega, by omega⟩ rfl)) ?_; refine sq qa ?_; refine sq qa ?_; refine l_nil ?_) | refine n_then ?_ | refine c_block ?_ | refine c_skip ?_ | refine n_block ?_ | refine c_exit ?_ | refine n_then_exit ?_ | refine n_block_eq ?_ | refine n_block_ne rfl ?_ | refine c_ret ?_ | refine n_then_ret ?_ | refine n_block_ret ?_ | refine c_cond_t rfl ?_ | refine c_cond_f rfl ?_ | refine r_succ ?_ )
              (first | apply r_ret () | apply r_end ()); exact rfl; exact rfl; exact (.tmp rfl (.tmp rfl .nil)); exact rfl; exact (List.nil_sublist _); exact new_nil; exact trivial
            · repeat (first | refine c_seq ?_ | (refine c_region (id := 5) ?_; refine sq (by first | exact dlsst | exact dlssf) ?_; refine l_nil ?_) | (refine c_region (id := 6) ?_; refine sq qm ?_; refine sq (by exact q_indexAddr_sl (o' := o + i) rfl rfl (by omega) (by omega) (by omega)) ?_; refine sq ql ?_; refine sq qa ?_; refine sq qa ?_; refine l_nil ?_) | (refine c_region (id := 7) ?_; refine sq qm ?_; refine sq (by first | exact dlsst | exact dlssf) ?_; refine sq qa ?_; refine l_nil ?_) | (refine c_region (id := 8) ?_; refine sq qm ?_; refine sq qm ?_; (first | refine sk ?_ | refine skv ?_ | (refine st_want rfl rfl ?_; refine sq qm ?_)); (first | refine sk ?_ | refine skv ?_ | (refine st_want rfl rfl ?_; refine sq (by first | exact deqlt | exact deqlf) ?_)); refine sq (by first | exact qpt | exact qpf) ?_; refine sq qm ?_; (first | refine sk ?_ | refine skv ?_ | (refine st_want rfl rfl ?_; refine sq qm ?_)); (first | refine sk ?_ | refine skv ?_ | (refine st_want rfl rfl ?_; refine sq (by first | exact dgtrt | exact dgtrf) ?_)); refine sq (by first | exact qpt | exact qpf) ?_; refine sq qa ?_; refine l_nil ?_) | (refine c_region (id := 10) ?_; refine sq qm ?_; refine sq (by first | exact deqlt | exact deqlf) ?_; refine sq qm ?_; (first | refine sk ?_ | refine skv ?_ | (refine st_want rfl rfl ?_; refine sq qm ?_)); (first | refine sk ?_ | refine skv ?_ | (refine st_want rfl rfl ?_; refine sq (by first | exact dgtrt | exact dgtrf) ?_)); refine sq (by first | exact qpt | exact qpf) ?_; refine sq qa ?_; refine l_nil ?_) | (refine c_region (id := 12) ?_; refine sq qm ?_; refine sq qm ?_; refine sq (by exact Qt.cast (v' := .int .u8 ((c % 128 : Nat) : Int)) (congrArg (Value.int .u8) (by omega)) (q_rem rfl rfl (by omega) (by omega))) ?_; refine sq (by exact Qt.cast (v' := .int .u64 ((c % 128 : Nat) : Int)) (congrArg (Value.int .u64) (by omega)) (q_convU rfl)) ?_; refine sq qm ?_; refine sq qmul64 ?_; refine sq (by exact q_shlU rfl rfl (by omega) (by omega)) ?_; refine sq (by exact Qt.cast (v' := .int .u64 ((x + c % 128 * 128 ^ i : Nat) : Int)) (congrArg (Value.int .u64) (or_join x (c % 128) i hxi hi9 (by omega) hc9)) (q_or rfl rfl)) ?_; refine sq qa ?_; refine l_nil ?_) | refine n_then ?_ | refine c_block ?_ | refine c_skip ?_ | refine n_block ?_ | refine c_exit ?_ | refine n_then_exit ?_ | refine n_block_eq ?_ | refine n_block_ne rfl ?_ | refine c_ret ?_ | refine n_then_ret ?_ | refine n_block_ret ?_ | refine c_cond_t rfl ?_ | refine c_cond_f rfl ?_ | refine r_succ ?_ )
              rw [hcm]
              repeat (first | refine c_seq ?_ | (refine c_region (id := 13) ?_; refine sq qm ?_; refine l_nil ?_) | (refine c_region (id := 14) ?_; refine sq qm ?_; refine sq qm ?_; refine sq (by exact Qt.cast (v' := .int .i64 ((i + 1 : Nat) : Int)) (congrArg (Value.int .i64) (by omega)) (q_add64 rfl rfl ⟨by omega, by omega⟩ rfl)) ?_; refine sq qa ?_; refine sq qa ?_; refine l_nil ?_) | refine n_then ?_ | refine c_block ?_ | refine c_skip ?_ | refine n_block ?_ | refine c_exit ?_ | refine n_then_exit ?_ | refine n_block_eq ?_ | refine n_block_ne rfl ?_ | refine c_ret ?_ | refine n_then_ret ?_ | refine n_block_ret ?_ | refine c_cond_t rfl ?_ | refine c_cond_f rfl ?_ | refine r_succ ?_ )
              (first | apply r_ret () | apply r_end ()); exact rfl; exact rfl; exact (.tmp rfl (.tmp rfl .nil)); exact rfl; exact (List.nil_sublist _); exact new_nil; exact trivial
    · rw [if_neg hlt] at hnx
      by_cases h9 : i = 9
      · rw [if_pos h9] at hnx
        rw [hnx]
        repeat (first | refine c_seq ?_ | (refine c_region (id := 5) ?_; refine sq (by first | exact dlsst | exact dlssf) ?_; refine l_nil ?_) | (refine c_region (id := 6) ?_; refine sq qm ?_; refine sq (by exact q_indexAddr_sl (o' := o + i) rfl rfl (by omega) (by omega) (by omega)) ?_; refine sq ql ?_; refine sq qa ?_; refine sq qa ?_; refine l_nil ?_) | (refine c_region (id := 7) ?_; refine sq qm ?_; refine sq (by first | exact dlsst | exact dlssf) ?_; refine sq qa ?_; refine l_nil ?_) | (refine c_region (id := 8) ?_; refine sq qm ?_; refine sq qm ?_; (first | refine sk ?_ | refine skv ?_ | (refine st_want rfl rfl ?_; refine sq qm ?_)); (first | refine sk ?_ | refine skv ?_ | (refine st_want rfl rfl ?_; refine sq (by first | exact deqlt | exact deqlf) ?_)); refine sq (by first | exact qpt | exact qpf) ?_; refine sq qm ?_; (first | refine sk ?_ | refine skv ?_ | (refine st_want rfl rfl ?_; refine sq qm ?_)); (first | refine sk ?_ | refine skv ?_ | (refine st_want rfl rfl ?_; refine sq (by first | exact dgtrt | exact dgtrf) ?_)); refine sq (by first | exact qpt | exact qpf) ?_; refine sq qa ?_; refine l_nil ?_) | (refine c_region (id := 10) ?_; refine sq qm ?_; refine sq (by first | exact deqlt | exact deqlf) ?_; refine sq qm ?_; (first | refine sk ?_ | refine skv ?_ | (refine st_want rfl rfl ?_; refine sq qm ?_)); (first | refine sk ?_ | refine skv ?_ | (refine st_want rfl rfl ?_; refine sq (by first | exact dgtrt | exact dgtrf) ?_)); refine sq (by first | exact qpt | exact qpf) ?_; refine sq qa ?_; refine l_nil ?_) | (refine c_region (id := 11) ?_; refine sq qa ?_; refine sq qa ?_; refine l_nil ?_) | refine n_then ?_ | refine c_block ?_ | refine c_skip ?_ | refine n_block ?_ | refine c_exit ?_ | refine n_then_exit ?_ | refine n_block_eq ?_ | refine n_block_ne rfl ?_ | refine c_ret ?_ | refine n_then_ret ?_ | refine n_block_ret ?_ | refine c_cond_t rfl ?_ | refine c_cond_f rfl ?_ | refine r_succ ?_ )
        (first | apply r_ret () | apply r_end ()); exact rfl; exact rfl; exact (.tmp rfl (.tmp rfl .nil)); exact rfl; exact (List.nil_sublist _); exact new_nil; exact trivial
      · rw [if_neg h9] at hnx
        have hc9 : i = 9 → c % 128 ≤ 1 := fun h => absurd h h9
        have hpl := pow_lt_step (n := i) hxi (show c % 128 < 128 by omega)
        repeat (first | refine c_seq ?_ | (refine c_region (id := 5) ?_; refine sq (by first | exact dlsst | exact dlssf) ?_; refine l_nil ?_) | (refine c_region (id := 6) ?_; refine sq qm ?_; refine sq (by exact q_indexAddr_sl (o' := o + i) rfl rfl (by omega) (by omega) (by omega)) ?_; refine sq ql ?_; refine sq qa ?_; refine sq qa ?_; refine l_nil ?_) | (refine c_region (id := 7) ?_; refine sq qm ?_; refine sq (by first | exact dlsst | exact dlssf) ?_; refine sq qa ?_; refine l_nil ?_) | (refine c_region (id := 8) ?_; refine sq qm ?_; refine sq qm ?_; (first | refine sk ?_ | refine skv ?_ | (refine st_want rfl rfl ?_; refine sq qm ?_)); (first | refine sk ?_ | refine skv ?_ | (refine st_want rfl rfl ?_; refine sq (by first | exact deqlt | exact deqlf) ?_)); refine sq (by first | exact qpt | exact qpf) ?_; refine sq qm ?_; (first | refine sk ?_ | refine skv ?_ | (refine st_want rfl rfl ?_; refine sq qm ?_)); (first | refine sk ?_ | refine skv ?_ | (refine st_want rfl rfl ?_; refine sq (by first | exact dgtrt | exact dgtrf) ?_)); refine sq (by first | exact qpt | exact qpf) ?_; refine sq qa ?_; refine l_nil ?_) | (refine c_region (id := 10) ?_; refine sq qm ?_; refine sq (by first | exact deqlt | exact deqlf) ?_; refine sq qm ?_; (first | refine sk ?_ | refine skv ?_ | (refine st_want rfl rfl ?_; refine sq qm ?_)); (first | refine sk ?_ | refine skv ?_ | (refine st_want rfl rfl ?_; refine sq (by first | exact dgtrt | exact dgtrf) ?_)); refine sq (by first | exact qpt | exact qpf) ?_; refine sq qa ?_; refine l_nil ?_) | (refine c_region (id := 12) ?_; refine sq qm ?_; refine sq qm ?_; refine sq (by exact Qt.cast (v' := .int .u8 ((c % 128 : Nat) : Int)) (congrArg (Value.int .u8) (by omega)) (q_rem rfl rfl (by omega) (by omega))) ?_; refine sq (by exact Qt.cast (v' := .int .u64 ((c % 128 : Nat) : Int)) (congrArg (Value.int .u64) (by omega)) (q_convU rfl)) ?_; refine sq qm ?_; refine sq qmul64 ?_; refine sq (by exact q_shlU rfl rfl (by omega) (by omega)) ?_; refine sq (by exact Qt.cast (v' := .int .u64 ((x + c % 128 * 128 ^ i : Nat) : Int)) (congrArg (Value.int .u64) (or_join x (c % 128) i hxi hi9 (by omega) hc9)) (q_or rfl rfl)) ?_; refine sq qa ?_; refine l_nil ?_) | (refine c_region (id := 13) ?_; refine sq qm ?_; refine l_nil ?_) | (refine c_region (id := 15) ?_; refine sq (by exact Qt.cast (v' := .int .i64 ((i + 1 : Nat) : Int)) (congrArg (Value.int .i64) (by omega)) (q_add64 rfl rfl ⟨by omega, by omega⟩ rfl)) ?_; refine sq qm ?_; refine l_nil ?_) | refine n_then ?_ | refine c_block ?_ | refine c_skip ?_ | refine n_block ?_ | refine c_exit ?_ | refine n_then_exit ?_ | refine n_block_eq ?_ | refine n_block_ne rfl ?_ | refine c_ret ?_ | refine n_then_ret ?_ | refine n_block_ret ?_ | refine c_cond_t rfl ?_ | refine c_cond_f rfl ?_ | refine r_succ ?_ )
        refine c_round ⟨i + 1, x + c % 128 * 128 ^ i⟩ ⟨by dsimp only; omega, hnx, hpl, by dsimp only; omega⟩ (by dsimp only; omega) ⟨rfl, rfl, rfl, rfl, rfl, rfl, trivial⟩ (by rfl) (by (repeat (first | exact List.nil_sublist _ | exact List.Sublist.slnil | apply List.Sublist.cons_cons | exact List.Sublist.refl _ | apply List.Sublist.cons)))
  · have hx0 : numX ys = (0, 0) := by rw [hnx, List.drop_of_length_le (by omega)]; rfl
    rw [hx0]
    repeat (first | refine c_seq ?_ | (refine c_region (id := 5) ?_; refine sq (by first | exact dlsst | exact dlssf) ?_; refine l_nil ?_) | (refine c_region (id := 16) ?_; refine sq qa ?_; refine sq qa ?_; refine l_nil ?_) | refine n_then ?_ | refine c_block ?_ | refine c_skip ?_ | refine n_block ?_ | refine c_exit ?_ | refine n_then_exit ?_ | refine n_block_eq ?_ | refine n_block_ne rfl ?_ | refine c_ret ?_ | refine n_then_ret ?_ | refine n_block_ret ?_ | refine c_cond_t rfl ?_ | refine c_cond_f rfl ?_ | refine r_succ ?_ )
    (first | apply r_ret () | apply r_end ()); exact rfl; exact rfl; exact (.tmp rfl (.tmp rfl .nil)); exact rfl; exact (List.nil_sublist _); exact new_nil; exact trivial
set_option maxRecDepth 100000 in
set_option maxHeartbeats 4000000 in
theorem numbad_c (gi : Nat) (v : Value) (w : World) (hO : Old w gi 0 [v, .bool true]) :
    CA Tryz.prog 60 [.pointer (some ⟨gi, 0, none⟩)] w (RV (.tuple #[.int .u64 0, .int .i64 0]) w) := by
  refine enter (L := []) (X := []) Tryz.func60 rfl Tryz.ntmps60 rfl rfl (Has.nil _) ?_
  repeat (first | refine c_seq ?_ | (refine c_region (id := 0) ?_; refine sq qa ?_; refine sq qa ?_; refine l_nil ?_) | (refine c_region (id := 1) ?_; refine sq qm ?_; refine sq qn ?_; refine sq qf ?_; refine sq (by exact q_load rfl (Rd.oldn (j := 1) hO (by rfl) (by simp))) ?_; refine l_nil ?_) | (refine c_region (id := 2) ?_; refine sq qa ?_; refine sq qa ?_; refine l_nil ?_) | refine n_then ?_ | refine c_block ?_ | refine c_skip ?_ | refine n_block ?_ | refine c_exit ?_ | refine n_then_exit ?_ | refine n_block_eq ?_ | refine n_block_ne rfl ?_ | refine c_ret ?_ | refine n_then_ret ?_ | refine n_block_ret ?_ | refine c_cond_t rfl ?_ | refine c_cond_f rfl ?_ | refine r_succ ?_ )
  (first | apply r_ret () | apply r_end ()); exact rfl; exact rfl; exact (.tmp rfl (.tmp rfl .nil)); exact rfl; exact (List.nil_sublist _); exact new_nil; exact trivial
end Go.Proofs.YtgmghkakiocmjaaGreatDoor
namespace Go.Proofs.YtgmghkakiocmjaaGreatDoor
open Go Go.RowKit
set_option linter.unusedVariables false
set_option linter.unusedSimpArgs false
theorem numF_spec : ∀ (ys : List Int) (n0 acc x m : Nat), (∀ y ∈ ys, 0 ≤ y ∧ y ≤ 255) → n0 ≤ 9 → acc < 128 ^ n0 → numF ys n0 acc = (x, m) → m ≠ 0 →
    ∃ v, x = acc + v * 128 ^ n0 ∧ leb v = ys.take (m - n0) ∧ n0 < m ∧ m ≤ n0 + ys.length ∧ (0 < n0 → v ≠ 0) ∧ x < 18446744073709551616
  | [], n0, acc, x, m, _, _, _, h, hm => by
    simp only [numF, Prod.mk.injEq] at h
    exact absurd h.2.symm hm
  | b :: bs, n0, acc, x, m, hb, h9, ha, h, hm => by
    obtain ⟨hb0, hb1⟩ := hb b (by simp)
    obtain ⟨c, rfl⟩ : ∃ c : Nat, b = (c : Int) := ⟨b.toNat, by omega⟩
    simp only [numF, Int.toNat_natCast] at h
    by_cases hlt : c < 128
    · rw [if_pos hlt] at h
      by_cases hz : c = 0 ∧ 0 < n0
      · rw [if_pos hz] at h; simp only [Prod.mk.injEq] at h; exact absurd h.2.symm hm
      · rw [if_neg hz] at h
        by_cases h99 : n0 = 9 ∧ 1 < c
        · rw [if_pos h99] at h; simp only [Prod.mk.injEq] at h; exact absurd h.2.symm hm
        · rw [if_neg h99] at h
          simp only [Prod.mk.injEq] at h
          obtain ⟨rfl, rfl⟩ := h
          refine ⟨c, rfl, ?_, by omega, by simp only [List.length_cons]; omega, fun h0 hc => hz ⟨hc, h0⟩, ?_⟩
          · rw [leb_small hlt, show n0 + 1 - n0 = 1 by omega]; rfl
          · have hl := pow_lt_step (n := n0) ha hlt
            rcases Nat.lt_or_ge n0 9 with h | h
            · have h1 : 128 ^ (n0 + 1) ≤ 128 ^ 9 := Nat.pow_le_pow_right (by omega) (by omega)
              have h2 : (128 : Nat) ^ 9 = 9223372036854775808 := by decide
              omega
            · obtain rfl : n0 = 9 := by omega
              have h2 : (128 : Nat) ^ 9 = 9223372036854775808 := by decide
              rw [h2] at ha ⊢
              have : c ≤ 1 := by omega
              omega
    · rw [if_neg hlt] at h
      by_cases h99 : n0 = 9
      · rw [if_pos h99] at h; simp only [Prod.mk.injEq] at h; exact absurd h.2.symm hm
      · rw [if_neg h99] at h
        obtain ⟨v, e1, e2, e3, e4, e5, e6⟩ := numF_spec bs (n0 + 1) _ x m (fun y hy => hb y (by simp [hy])) (by omega) (pow_lt_step ha (by omega)) h hm
        have hv0 := e5 (by omega)
        refine ⟨c % 128 + 128 * v, ?_, ?_, by omega, by simp only [List.length_cons]; omega, fun _ h0 => by omega, e6⟩
        · rw [e1, Nat.add_mul, Nat.pow_succ, Nat.add_assoc]
          congr 2
          rw [Nat.mul_comm (128 ^ n0) 128, ← Nat.mul_assoc, Nat.mul_comm v 128]
        · have h1 : (c % 128 + 128 * v) % 128 = c % 128 := by omega
          have h2 : (c % 128 + 128 * v) / 128 = v := by omega
          rw [leb_big (by omega), h1, h2, e2, show m - n0 = (m - (n0 + 1)) + 1 by omega, List.take_succ_cons]
          congr 1
          omega
theorem numX_spec {ys : List Int} {x n : Nat} (hb : ∀ y ∈ ys, 0 ≤ y ∧ y ≤ 255) (h : numX ys = (x, n)) (hn : n ≠ 0) : leb x = ys.take n ∧ n ≤ ys.length ∧ x < 18446744073709551616 := by
  obtain ⟨v, e1, e2, e3, e4, _, e6⟩ := numF_spec ys 0 0 x n hb (by omega) (by simp) h hn
  have : x = v := by rw [e1]; simp
  rw [← this] at e2
  exact ⟨by simpa using e2, by omega, e6⟩
end Go.Proofs.YtgmghkakiocmjaaGreatDoor
namespace Go.Proofs.YtgmghkakiocmjaaGreatDoor
open Go Go.RowKit
set_option linter.unusedVariables false
set_option linter.unusedSimpArgs false
set_option maxRecDepth 100000 in
set_option maxHeartbeats 4000000 in
theorem itext_c (gi : Nat) (b : Option Addr) (cap : Nat) (xs : List Int) (hxb : ∀ x ∈ xs, 0 ≤ x ∧ x ≤ 255) (hxn : xs.length ≤ 100000) (lb : Option Addr) (ll lc : Nat) (bad : Bool) (hv : LV b xs lb ll lc) (w : World) (ho : OS [] 0 b cap xs.length) (hL0 : Has (InL gi b cap xs lb ll lc false) w) (most : Int) (hmost : 0 ≤ most ∧ most ≤ 9223372036854775807) (x n : Nat) (hnx : numX (xs.drop (xs.length - ll)) = (x, n)) (hn : n ≠ 0) (hxm : (x : Int) ≤ most) (hx4 : x ≤ 4096) (hxl : n + x ≤ ll) :
    CA Tryz.prog 40 [.pointer (some ⟨gi, 0, none⟩), .int .i64 most] w (Ret (fun z : Option Addr × Nat × Option Addr => .slice z.1 x z.2.1) (feet (InL gi b cap xs lb ll lc false)) (fun z => .sl z.1 z.2.1 5 1 (((xs.drop (xs.length - (ll - n))).take x).map (Value.int .u8)) :: InL gi b cap xs z.2.2 (ll - n - x) (lc - n - x) false) (fun z => OS [] 0 z.1 z.2.1 x ∧ LV b xs z.2.2 (ll - n - x) (lc - n - x)) w) := by
  have hlc := hv.lc
  have hle := hv.le
  obtain ⟨lb2, hlb2⟩ : ∃ q, q = (if lc = n then lb else lb.map (·.add (n * 1))) := ⟨_, rfl⟩
  have hv2 : LV b xs lb2 (ll - n) (lc - n) := by rw [hlb2]; exact hv.cut n (by omega)
  refine enter (L := [.sl b cap 5 1 (xs.map (Value.int .u8)), .blk gi (.cells #[.slice lb ll lc, .bool false] 107 (0, 0))]) (X := feet (InL gi b cap xs lb ll lc false)) Tryz.func40 rfl Tryz.ntmps40 rfl rfl hL0 ?_
  repeat (first | refine c_seq ?_ | (refine c_region (id := 0) ?_; refine sq qa ?_; refine l_nil ?_) | (refine c_region (id := 1) ?_; refine sq qm ?_; refine se ?_; refine ecp rfl rfl (fun w hC hm hL => by have h9 := number_c gi lb ll lc (xs.drop (xs.length - ll)) hv.rest (fun y hy => hxb y (List.mem_of_mem_drop hy)) (by have := hv.le; omega) w (hL.old (k := 2) (by (repeat (first | exact List.Mem.head _ | apply List.Mem.tail))) (by rfl)) (hv.slE (SlE.own hL (by (repeat (first | exact List.Mem.head _ | apply List.Mem.tail))) ho)); rw [hnx] at h9; exact h9) ?_; intro m' hm'; refine sq qm ?_; refine sq qe ?_; refine sq qe ?_; refine sq qa ?_; refine sq qa ?_; refine l_nil ?_) | (refine c_region (id := 2) ?_; refine sq qm ?_; refine sq (by first | exact deqlt | exact deqlf) ?_; refine sq qm ?_; (first | refine sk ?_ | refine skv ?_ | (refine st_want rfl rfl ?_; refine sq qm ?_)); (first | refine sk ?_ | refine skv ?_ | (refine st_want rfl rfl ?_; refine sq (by first | exact dlsst | exact dlssf) ?_)); refine sq (by first | exact qpt | exact qpf) ?_; refine sq qm ?_; (first | refine sk ?_ | refine skv ?_ | (refine st_want rfl rfl ?_; refine sq qm ?_)); (first | refine sk ?_ | refine skv ?_ | (refine st_want rfl rfl ?_; refine sq qm ?_)); (first | refine sk ?_ | refine skv ?_ | (refine st_want rfl rfl ?_; refine sq (by exact Qt.cast (v' := .int .i64 (((min most.toNat 4096 : Nat)) : Int)) (congrArg (Value.int .i64) (by split <;> omega)) (q_min rfl rfl)) ?_)); (first | refine sk ?_ | refine skv ?_ | (refine st_want rfl rfl ?_; refine sq (by exact Qt.cast (v' := .int .u64 ((min most.toNat 4096 : Nat) : Int)) (congrArg (Value.int .u64) (by omega)) (q_convU rfl)) ?_)); (first | refine sk ?_ | refine skv ?_ | (refine st_want rfl rfl ?_; refine sq (by first | exact dgtrt | exact dgtrf) ?_)); refine sq (by first | exact qpt | exact qpf) ?_; refine sq qm ?_; (first | refine sk ?_ | refine skv ?_ | (refine st_want rfl rfl ?_; refine sq qm ?_)); (first | refine sk ?_ | refine skv ?_ | (refine st_want rfl rfl ?_; refine sq (by exact Qt.cast (v' := .int .i64 ((x : Nat) : Int)) (congrArg (Value.int .i64) (by omega)) (q_conv_i64 rfl (by omega) (by omega))) ?_)); (first | refine sk ?_ | refine skv ?_ | (refine st_want rfl rfl ?_; refine sq qm ?_)); (first | refine sk ?_ | refine skv ?_ | (refine st_want rfl rfl ?_; refine sq qn ?_)); (first | refine sk ?_ | refine skv ?_ | (refine st_want rfl rfl ?_; refine sq qf ?_)); (first | refine sk ?_ | refine skv ?_ | (refine st_want rfl rfl ?_; refine sq ql ?_)); (first | refine sk ?_ | refine skv ?_ | (refine st_want rfl rfl ?_; refine sq qls ?_)); (first | refine sk ?_ | refine skv ?_ | (refine st_want rfl rfl ?_; refine sq qm ?_)); (first | refine sk ?_ | refine skv ?_ | (refine st_want rfl rfl ?_; refine sq (by exact Qt.cast (v' := .int .i64 ((ll : Int) - (n : Int))) rfl (q_sub64 rfl rfl ⟨by omega, by omega⟩ rfl)) ?_)); (first | refine sk ?_ | refine skv ?_ | (refine st_want rfl rfl ?_; refine sq (by first | exact dgtrt | exact dgtrf) ?_)); refine sq (by first | exact qpt | exact qpf) ?_; refine l_nil ?_) | refine n_then ?_ | refine c_block ?_ | refine c_skip ?_ | refine n_block ?_ | refine c_exit ?_ | refine n_then_exit ?_ | refine n_block_eq ?_ | refine n_block_ne rfl ?_ | refine c_ret ?_ | refine n_then_ret ?_ | refine n_block_ret ?_ | refine c_cond_t rfl ?_ | refine c_cond_f rfl ?_ | refine r_succ ?_ )
  repeat (first | refine c_seq ?_ | (refine c_region (id := 5) ?_; refine sq qm ?_; refine sq qm ?_; refine sq qn ?_; refine sq qf ?_; refine sq ql ?_; refine sq qm ?_; refine sq (by exact q_slice (b' := (if lc = n then lb else lb.map (·.add (n * 1)))) (len' := ll - n) (cap' := lc - n) rfl rfl rfl (by omega) (by omega) (by omega) (by omega) (by rw [Int.toNat_natCast]) (by omega) (by omega)) ?_; refine sq qn ?_; refine sq qf ?_; refine se ?_; (refine e_store1l rfl rfl rfl (by (repeat (first | exact List.Mem.head _ | apply List.Mem.tail))) (by first | (simp only [setL]; try exact rfl) | exact rfl) (by (repeat (first | exact Pl.here | apply Pl.there))) rfl (.inl (by simp [feet, InL, Chunk.foot])) ?_); refine l_nil ?_) | refine n_then ?_ | refine c_block ?_ | refine c_skip ?_ | refine n_block ?_ | refine c_exit ?_ | refine n_then_exit ?_ | refine n_block_eq ?_ | refine n_block_ne rfl ?_ | refine c_ret ?_ | refine n_then_ret ?_ | refine n_block_ret ?_ | refine c_cond_t rfl ?_ | refine c_cond_f rfl ?_ | refine r_succ ?_ )
  rw [← hlb2]
  repeat (first | refine c_seq ?_ | (refine c_region (id := 6) ?_; refine sq qm ?_; refine sq qm ?_; refine sq (by exact Qt.cast (v' := .int .i64 ((x : Nat) : Int)) (congrArg (Value.int .i64) (by omega)) (q_conv_i64 rfl (by omega) (by omega))) ?_; refine se ?_; refine e_callX (InL gi b cap xs lb2 (ll - n) (lc - n) false) (fun z : Option Addr × Nat × Option Addr => [.sl z.1 z.2.1 5 1 ((((xs.drop (xs.length - (ll - n))).take x)).map (Value.int .u8)), .sl b cap 5 1 ((xs).map (Value.int .u8)), .blk gi (.cells #[.slice z.2.2 (ll - n - x) (lc - n - x), .bool false] 107 (0, 0))]) rfl rfl (by kernel_rfl) rfl (by (repeat (first | exact Sp.nil | (apply Sp.cons; focus (repeat (first | exact Rm.here | apply Rm.there)))))) (fun w hC hm hA hL hap => by exact iraw_c gi b cap xs hxb hxn lb2 (ll - n) (lc - n) false hv2 w ho hA x (by omega)) (fun g hg => .inl hg) (fun z => by rfl) ?_; rintro ⟨b1, c1, lb3⟩ m1 ⟨ho1, hv3⟩ hn1 hm1; dsimp only at ho1 hv3 hn1 ⊢; refine sq qa ?_; refine l_nil ?_) | refine n_then ?_ | refine c_block ?_ | refine c_skip ?_ | refine n_block ?_ | refine c_exit ?_ | refine n_then_exit ?_ | refine n_block_eq ?_ | refine n_block_ne rfl ?_ | refine c_ret ?_ | refine n_then_ret ?_ | refine n_block_ret ?_ | refine c_cond_t rfl ?_ | refine c_cond_f rfl ?_ | refine r_succ ?_ )
  (first | apply r_ret (b1, c1, lb3) | apply r_end (b1, c1, lb3)); exact rfl; exact rfl; exact (.tmp rfl .nil); exact rfl; exact (by exact (by (repeat (first | exact List.nil_sublist _ | exact List.Sublist.slnil | apply List.Sublist.cons_cons | exact List.Sublist.refl _ | apply List.Sublist.cons)))); exact hn1; exact ⟨ho1, hv3⟩
set_option maxRecDepth 100000 in
set_option maxHeartbeats 4000000 in
theorem itextno_c (gi : Nat) (b : Option Addr) (cap : Nat) (xs : List Int) (hxb : ∀ x ∈ xs, 0 ≤ x ∧ x ≤ 255) (hxn : xs.length ≤ 100000) (lb : Option Addr) (ll lc : Nat) (bad : Bool) (hv : LV b xs lb ll lc) (w : World) (ho : OS [] 0 b cap xs.length) (hL0 : Has (InL gi b cap xs lb ll lc bad) w) (most : Int) (hmost : -9223372036854775808 ≤ most ∧ most ≤ 9223372036854775807) (hno : bad = true ∨ (numX (xs.drop (xs.length - ll))).2 = 0 ∨ most < 0 ∨ most < ((numX (xs.drop (xs.length - ll))).1 : Int) ∨ 4096 < (numX (xs.drop (xs.length - ll))).1 ∨ ll < (numX (xs.drop (xs.length - ll))).2 + (numX (xs.drop (xs.length - ll))).1) :
    CA Tryz.prog 40 [.pointer (some ⟨gi, 0, none⟩), .int .i64 most] w (Ret (fun _ : Unit => .slice none 0 0) (feet (InL gi b cap xs lb ll lc bad)) (fun _ => InL gi b cap xs lb ll lc true) (fun _ => True) w) := by
  have hlc := hv.lc
  have hle := hv.le
  cases bad with
  | true =>
    refine enter (L := [.sl b cap 5 1 (xs.map (Value.int .u8)), .blk gi (.cells #[.slice lb ll lc, .bool true] 107 (0, 0))]) (X := feet (InL gi b cap xs lb ll lc true)) Tryz.func40 rfl Tryz.ntmps40 rfl rfl hL0 ?_
    repeat (first | refine c_seq ?_ | (refine c_region (id := 0) ?_; refine sq qa ?_; refine l_nil ?_) | (refine c_region (id := 1) ?_; refine sq qm ?_; refine se ?_; refine ecp rfl rfl (fun w hC hm hL => by exact numbad_c gi _ w (hL.old (k := 2) (by (repeat (first | exact List.Mem.head _ | apply List.Mem.tail))) (by rfl))) ?_; intro m' hm'; refine sq qm ?_; refine sq qe ?_; refine sq qe ?_; refine sq qa ?_; refine sq qa ?_; refine l_nil ?_) | (refine c_region (id := 2) ?_; refine sq qm ?_; refine sq (by first | exact deqlt | exact deqlf) ?_; refine sq qm ?_; (first | refine sk ?_ | refine skv ?_ | (refine st_want rfl rfl ?_; refine sq qm ?_)); (first | refine sk ?_ | refine skv ?_ | (refine st_want rfl rfl ?_; refine sq (by first | exact dlsst | exact dlssf) ?_)); refine sq (by first | exact qpt | exact qpf) ?_; refine sq qm ?_; (first | refine sk ?_ | refine skv ?_ | (refine st_want rfl rfl ?_; refine sq qm ?_)); (first | refine sk ?_ | refine skv ?_ | (refine st_want rfl rfl ?_; refine sq qm ?_)); (first | refine sk ?_ | refine skv ?_ | (refine st_want rfl rfl ?_; refine sq (by exact Qt.cast (v' := .int .i64 (((min most.toNat 4096 : Nat)) : Int)) (congrArg (Value.int .i64) (by split <;> omega)) (q_min rfl rfl)) ?_)); (first | refine sk ?_ | refine skv ?_ | (refine st_want rfl rfl ?_; refine sq (by exact Qt.cast (v' := .int .u64 ((min most.toNat 4096 : Nat) : Int)) (congrArg (Value.int .u64) (by omega)) (q_convU rfl)) ?_)); (first | refine sk ?_ | refine skv ?_ | (refine st_want rfl rfl ?_; refine sq (by first | exact dgtrt | exact dgtrf) ?_)); refine sq (by first | exact qpt | exact qpf) ?_; refine sq qm ?_; (first | refine sk ?_ | refine skv ?_ | (refine st_want rfl rfl ?_; refine sq qm ?_)); (first | refine sk ?_ | refine skv ?_ | (refine st_want rfl rfl ?_; refine sq (by exact Qt.cast (v' := .int .i64 ((x : Nat) : Int)) (congrArg (Value.int .i64) (by omega)) (q_conv_i64 rfl (by omega) (by omega))) ?_)); (first | refine sk ?_ | refine skv ?_ | (refine st_want rfl rfl ?_; refine sq qm ?_)); (first | refine sk ?_ | refine skv ?_ | (refine st_want rfl rfl ?_; refine sq qn ?_)); (first | refine sk ?_ | refine skv ?_ | (refine st_want rfl rfl ?_; refine sq qf ?_)); (first | refine sk ?_ | refine skv ?_ | (refine st_want rfl rfl ?_; refine sq ql ?_)); (first | refine sk ?_ | refine skv ?_ | (refine st_want rfl rfl ?_; refine sq qls ?_)); (first | refine sk ?_ | refine skv ?_ | (refine st_want rfl rfl ?_; refine sq qm ?_)); (first | refine sk ?_ | refine skv ?_ | (refine st_want rfl rfl ?_; refine sq (by exact Qt.cast (v' := .int .i64 ((ll : Int) - (n : Int))) rfl (q_sub64 rfl rfl ⟨by omega, by omega⟩ rfl)) ?_)); (first | refine sk ?_ | refine skv ?_ | (refine st_want rfl rfl ?_; refine sq (by first | exact dgtrt | exact dgtrf) ?_)); refine sq (by first | exact qpt | exact qpf) ?_; refine l_nil ?_) | (refine c_region (id := 3) ?_; refine sq qm ?_; refine sq qn ?_; refine sq qf ?_; refine se ?_; (refine e_store1l rfl rfl rfl (by (repeat (first | exact List.Mem.head _ | apply List.Mem.tail))) (by first | (simp only [setL]; try exact rfl) | exact rfl) (by (repeat (first | exact Pl.here | apply Pl.there))) rfl (.inl (by simp [feet, InL, Chunk.foot])) ?_); refine l_nil ?_) | (refine c_region (id := 4) ?_; refine sq qa ?_; refine l_nil ?_) | refine n_then ?_ | refine c_block ?_ | refine c_skip ?_ | refine n_block ?_ | refine c_exit ?_ | refine n_then_exit ?_ | refine n_block_eq ?_ | refine n_block_ne rfl ?_ | refine c_ret ?_ | refine n_then_ret ?_ | refine n_block_ret ?_ | refine c_cond_t rfl ?_ | refine c_cond_f rfl ?_ | refine r_succ ?_ )
    (first | apply r_ret () | apply r_end ()); exact rfl; exact rfl; exact (.tmp rfl .nil); exact rfl; exact (by exact (by (repeat (first | exact List.nil_sublist _ | exact List.Sublist.slnil | apply List.Sublist.cons_cons | exact List.Sublist.refl _ | apply List.Sublist.cons)))); exact (fun g hg => .inl hg); exact trivial
  | false =>
    obtain ⟨x, n, hnx⟩ : ∃ x n, numX (xs.drop (xs.length - ll)) = (x, n) := ⟨_, _, rfl⟩
    rw [hnx] at hno
    by_cases hn : n = 0
    · refine enter (L := [.sl b cap 5 1 (xs.map (Value.int .u8)), .blk gi (.cells #[.slice lb ll lc, .bool false] 107 (0, 0))]) (X := feet (InL gi b cap xs lb ll lc false)) Tryz.func40 rfl Tryz.ntmps40 rfl rfl hL0 ?_
      repeat (first | refine c_seq ?_ | (refine c_region (id := 0) ?_; refine sq qa ?_; refine l_nil ?_) | (refine c_region (id := 1) ?_; refine sq qm ?_; refine se ?_; refine ecp rfl rfl (fun w hC hm hL => by have h9 := number_c gi lb ll lc (xs.drop (xs.length - ll)) hv.rest (fun y hy => hxb y (List.mem_of_mem_drop hy)) (by have := hv.le; omega) w (hL.old (k := 2) (by (repeat (first | exact List.Mem.head _ | apply List.Mem.tail))) (by rfl)) (hv.slE (SlE.own hL (by (repeat (first | exact List.Mem.head _ | apply List.Mem.tail))) ho)); rw [hnx] at h9; exact h9) ?_; intro m' hm'; refine sq qm ?_; refine sq qe ?_; refine sq qe ?_; refine sq qa ?_; refine sq qa ?_; refine l_nil ?_) | (refine c_region (id := 2) ?_; refine sq qm ?_; refine sq (by first | exact deqlt | exact deqlf) ?_; refine sq qm ?_; (first | refine sk ?_ | refine skv ?_ | (refine st_want rfl rfl ?_; refine sq qm ?_)); (first | refine sk ?_ | refine skv ?_ | (refine st_want rfl rfl ?_; refine sq (by first | exact dlsst | exact dlssf) ?_)); refine sq (by first | exact qpt | exact qpf) ?_; refine sq qm ?_; (first | refine sk ?_ | refine skv ?_ | (refine st_want rfl rfl ?_; refine sq qm ?_)); (first | refine sk ?_ | refine skv ?_ | (refine st_want rfl rfl ?_; refine sq qm ?_)); (first | refine sk ?_ | refine skv ?_ | (refine st_want rfl rfl ?_; refine sq (by exact Qt.cast (v' := .int .i64 (((min most.toNat 4096 : Nat)) : Int)) (congrArg (Value.int .i64) (by split <;> omega)) (q_min rfl rfl)) ?_)); (first | refine sk ?_ | refine skv ?_ | (refine st_want rfl rfl ?_; refine sq (by exact Qt.cast (v' := .int .u64 ((min most.toNat 4096 : Nat) : Int)) (congrArg (Value.int .u64) (by omega)) (q_convU rfl)) ?_)); (first | refine sk ?_ | refine skv ?_ | (refine st_want rfl rfl ?_; refine sq (by first | exact dgtrt | exact dgtrf) ?_)); refine sq (by first | exact qpt | exact qpf) ?_; refine sq qm ?_; (first | refine sk ?_ | refine skv ?_ | (refine st_want rfl rfl ?_; refine sq qm ?_)); (first | refine sk ?_ | refine skv ?_ | (refine st_want rfl rfl ?_; refine sq (by exact Qt.cast (v' := .int .i64 ((x : Nat) : Int)) (congrArg (Value.int .i64) (by omega)) (q_conv_i64 rfl (by omega) (by omega))) ?_)); (first | refine sk ?_ | refine skv ?_ | (refine st_want rfl rfl ?_; refine sq qm ?_)); (first | refine sk ?_ | refine skv ?_ | (refine st_want rfl rfl ?_; refine sq qn ?_)); (first | refine sk ?_ | refine skv ?_ | (refine st_want rfl rfl ?_; refine sq qf ?_)); (first | refine sk ?_ | refine skv ?_ | (refine st_want rfl rfl ?_; refine sq ql ?_)); (first | refine sk ?_ | refine skv ?_ | (refine st_want rfl rfl ?_; refine sq qls ?_)); (first | refine sk ?_ | refine skv ?_ | (refine st_want rfl rfl ?_; refine sq qm ?_)); (first | refine sk ?_ | refine skv ?_ | (refine st_want rfl rfl ?_; refine sq (by exact Qt.cast (v' := .int .i64 ((ll : Int) - (n : Int))) rfl (q_sub64 rfl rfl ⟨by omega, by omega⟩ rfl)) ?_)); (first | refine sk ?_ | refine skv ?_ | (refine st_want rfl rfl ?_; refine sq (by first | exact dgtrt | exact dgtrf) ?_)); refine sq (by first | exact qpt | exact qpf) ?_; refine l_nil ?_) | (refine c_region (id := 3) ?_; refine sq qm ?_; refine sq qn ?_; refine sq qf ?_; refine se ?_; (refine e_store1l rfl rfl rfl (by (repeat (first | exact List.Mem.head _ | apply List.Mem.tail))) (by first | (simp only [setL]; try exact rfl) | exact rfl) (by (repeat (first | exact Pl.here | apply Pl.there))) rfl (.inl (by simp [feet, InL, Chunk.foot])) ?_); refine l_nil ?_) | (refine c_region (id := 4) ?_; refine sq qa ?_; refine l_nil ?_) | refine n_then ?_ | refine c_block ?_ | refine c_skip ?_ | refine n_block ?_ | refine c_exit ?_ | refine n_then_exit ?_ | refine n_block_eq ?_ | refine n_block_ne rfl ?_ | refine c_ret ?_ | refine n_then_ret ?_ | refine n_block_ret ?_ | refine c_cond_t rfl ?_ | refine c_cond_f rfl ?_ | refine r_succ ?_ )
      (first | apply r_ret () | apply r_end ()); exact rfl; exact rfl; exact (.tmp rfl .nil); exact rfl; exact (by exact (by (repeat (first | exact List.nil_sublist _ | exact List.Sublist.slnil | apply List.Sublist.cons_cons | exact List.Sublist.refl _ | apply List.Sublist.cons)))); exact (fun g hg => .inl hg); exact trivial
    · have hxs := numX_spec (fun y hy => hxb y (List.mem_of_mem_drop hy)) hnx hn
      have hx64 := hxs.2.2
      have hnl := hxs.2.1
      rw [hv.rest] at hnl
      by_cases h1 : most < 0
      · refine enter (L := [.sl b cap 5 1 (xs.map (Value.int .u8)), .blk gi (.cells #[.slice lb ll lc, .bool false] 107 (0, 0))]) (X := feet (InL gi b cap xs lb ll lc false)) Tryz.func40 rfl Tryz.ntmps40 rfl rfl hL0 ?_
        repeat (first | refine c_seq ?_ | (refine c_region (id := 0) ?_; refine sq qa ?_; refine l_nil ?_) | (refine c_region (id := 1) ?_; refine sq qm ?_; refine se ?_; refine ecp rfl rfl (fun w hC hm hL => by have h9 := number_c gi lb ll lc (xs.drop (xs.length - ll)) hv.rest (fun y hy => hxb y (List.mem_of_mem_drop hy)) (by have := hv.le; omega) w (hL.old (k := 2) (by (repeat (first | exact List.Mem.head _ | apply List.Mem.tail))) (by rfl)) (hv.slE (SlE.own hL (by (repeat (first | exact List.Mem.head _ | apply List.Mem.tail))) ho)); rw [hnx] at h9; exact h9) ?_; intro m' hm'; refine sq qm ?_; refine sq qe ?_; refine sq qe ?_; refine sq qa ?_; refine sq qa ?_; refine l_nil ?_) | (refine c_region (id := 2) ?_; refine sq qm ?_; refine sq (by first | exact deqlt | exact deqlf) ?_; refine sq qm ?_; (first | refine sk ?_ | refine skv ?_ | (refine st_want rfl rfl ?_; refine sq qm ?_)); (first | refine sk ?_ | refine skv ?_ | (refine st_want rfl rfl ?_; refine sq (by first | exact dlsst | exact dlssf) ?_)); refine sq (by first | exact qpt | exact qpf) ?_; refine sq qm ?_; (first | refine sk ?_ | refine skv ?_ | (refine st_want rfl rfl ?_; refine sq qm ?_)); (first | refine sk ?_ | refine skv ?_ | (refine st_want rfl rfl ?_; refine sq qm ?_)); (first | refine sk ?_ | refine skv ?_ | (refine st_want rfl rfl ?_; refine sq (by exact Qt.cast (v' := .int .i64 (((min most.toNat 4096 : Nat)) : Int)) (congrArg (Value.int .i64) (by split <;> omega)) (q_min rfl rfl)) ?_)); (first | refine sk ?_ | refine skv ?_ | (refine st_want rfl rfl ?_; refine sq (by exact Qt.cast (v' := .int .u64 ((min most.toNat 4096 : Nat) : Int)) (congrArg (Value.int .u64) (by omega)) (q_convU rfl)) ?_)); (first | refine sk ?_ | refine skv ?_ | (refine st_want rfl rfl ?_; refine sq (by first | exact dgtrt | exact dgtrf) ?_)); refine sq (by first | exact qpt | exact qpf) ?_; refine sq qm ?_; (first | refine sk ?_ | refine skv ?_ | (refine st_want rfl rfl ?_; refine sq qm ?_)); (first | refine sk ?_ | refine skv ?_ | (refine st_want rfl rfl ?_; refine sq (by exact Qt.cast (v' := .int .i64 ((x : Nat) : Int)) (congrArg (Value.int .i64) (by omega)) (q_conv_i64 rfl (by omega) (by omega))) ?_)); (first | refine sk ?_ | refine skv ?_ | (refine st_want rfl rfl ?_; refine sq qm ?_)); (first | refine sk ?_ | refine skv ?_ | (refine st_want rfl rfl ?_; refine sq qn ?_)); (first | refine sk ?_ | refine skv ?_ | (refine st_want rfl rfl ?_; refine sq qf ?_)); (first | refine sk ?_ | refine skv ?_ | (refine st_want rfl rfl ?_; refine sq ql ?_)); (first | refine sk ?_ | refine skv ?_ | (refine st_want rfl rfl ?_; refine sq qls ?_)); (first | refine sk ?_ | refine skv ?_ | (refine st_want rfl rfl ?_; refine sq qm ?_)); (first | refine sk ?_ | refine skv ?_ | (refine st_want rfl rfl ?_; refine sq (by exact Qt.cast (v' := .int .i64 ((ll : Int) - (n : Int))) rfl (q_sub64 rfl rfl ⟨by omega, by omega⟩ rfl)) ?_)); (first | refine sk ?_ | refine skv ?_ | (refine st_want rfl rfl ?_; refine sq (by first | exact dgtrt | exact dgtrf) ?_)); refine sq (by first | exact qpt | exact qpf) ?_; refine l_nil ?_) | (refine c_region (id := 3) ?_; refine sq qm ?_; refine sq qn ?_; refine sq qf ?_; refine se ?_; (refine e_store1l rfl rfl rfl (by (repeat (first | exact List.Mem.head _ | apply List.Mem.tail))) (by first | (simp only [setL]; try exact rfl) | exact rfl) (by (repeat (first | exact Pl.here | apply Pl.there))) rfl (.inl (by simp [feet, InL, Chunk.foot])) ?_); refine l_nil ?_) | (refine c_region (id := 4) ?_; refine sq qa ?_; refine l_nil ?_) | refine n_then ?_ | refine c_block ?_ | refine c_skip ?_ | refine n_block ?_ | refine c_exit ?_ | refine n_then_exit ?_ | refine n_block_eq ?_ | refine n_block_ne rfl ?_ | refine c_ret ?_ | refine n_then_ret ?_ | refine n_block_ret ?_ | refine c_cond_t rfl ?_ | refine c_cond_f rfl ?_ | refine r_succ ?_ )
        (first | apply r_ret () | apply r_end ()); exact rfl; exact rfl; exact (.tmp rfl .nil); exact rfl; exact (by exact (by (repeat (first | exact List.nil_sublist _ | exact List.Sublist.slnil | apply List.Sublist.cons_cons | exact List.Sublist.refl _ | apply List.Sublist.cons)))); exact (fun g hg => .inl hg); exact trivial
      · by_cases h2 : x ≤ min most.toNat 4096
        · have h3 : ll < n + x := by rcases hno with h | h | h | h | h | h; exact absurd h (by decide); exact absurd h hn; exact absurd h h1; omega; omega; exact h
          refine enter (L := [.sl b cap 5 1 (xs.map (Value.int .u8)), .blk gi (.cells #[.slice lb ll lc, .bool false] 107 (0, 0))]) (X := feet (InL gi b cap xs lb ll lc false)) Tryz.func40 rfl Tryz.ntmps40 rfl rfl hL0 ?_
          repeat (first | refine c_seq ?_ | (refine c_region (id := 0) ?_; refine sq qa ?_; refine l_nil ?_) | (refine c_region (id := 1) ?_; refine sq qm ?_; refine se ?_; refine ecp rfl rfl (fun w hC hm hL => by have h9 := number_c gi lb ll lc (xs.drop (xs.length - ll)) hv.rest (fun y hy => hxb y (List.mem_of_mem_drop hy)) (by have := hv.le; omega) w (hL.old (k := 2) (by (repeat (first | exact List.Mem.head _ | apply List.Mem.tail))) (by rfl)) (hv.slE (SlE.own hL (by (repeat (first | exact List.Mem.head _ | apply List.Mem.tail))) ho)); rw [hnx] at h9; exact h9) ?_; intro m' hm'; refine sq qm ?_; refine sq qe ?_; refine sq qe ?_; refine sq qa ?_; refine sq qa ?_; refine l_nil ?_) | (refine c_region (id := 2) ?_; refine sq qm ?_; refine sq (by first | exact deqlt | exact deqlf) ?_; refine sq qm ?_; (first | refine sk ?_ | refine skv ?_ | (refine st_want rfl rfl ?_; refine sq qm ?_)); (first | refine sk ?_ | refine skv ?_ | (refine st_want rfl rfl ?_; refine sq (by first | exact dlsst | exact dlssf) ?_)); refine sq (by first | exact qpt | exact qpf) ?_; refine sq qm ?_; (first | refine sk ?_ | refine skv ?_ | (refine st_want rfl rfl ?_; refine sq qm ?_)); (first | refine sk ?_ | refine skv ?_ | (refine st_want rfl rfl ?_; refine sq qm ?_)); (first | refine sk ?_ | refine skv ?_ | (refine st_want rfl rfl ?_; refine sq (by exact Qt.cast (v' := .int .i64 (((min most.toNat 4096 : Nat)) : Int)) (congrArg (Value.int .i64) (by split <;> omega)) (q_min rfl rfl)) ?_)); (first | refine sk ?_ | refine skv ?_ | (refine st_want rfl rfl ?_; refine sq (by exact Qt.cast (v' := .int .u64 ((min most.toNat 4096 : Nat) : Int)) (congrArg (Value.int .u64) (by omega)) (q_convU rfl)) ?_)); (first | refine sk ?_ | refine skv ?_ | (refine st_want rfl rfl ?_; refine sq (by first | exact dgtrt | exact dgtrf) ?_)); refine sq (by first | exact qpt | exact qpf) ?_; refine sq qm ?_; (first | refine sk ?_ | refine skv ?_ | (refine st_want rfl rfl ?_; refine sq qm ?_)); (first | refine sk ?_ | refine skv ?_ | (refine st_want rfl rfl ?_; refine sq (by exact Qt.cast (v' := .int .i64 ((x : Nat) : Int)) (congrArg (Value.int .i64) (by omega)) (q_conv_i64 rfl (by omega) (by omega))) ?_)); (first | refine sk ?_ | refine skv ?_ | (refine st_want rfl rfl ?_; refine sq qm ?_)); (first | refine sk ?_ | refine skv ?_ | (refine st_want rfl rfl ?_; refine sq qn ?_)); (first | refine sk ?_ | refine skv ?_ | (refine st_want rfl rfl ?_; refine sq qf ?_)); (first | refine sk ?_ | refine skv ?_ | (refine st_want rfl rfl ?_; refine sq ql ?_)); (first | refine sk ?_ | refine skv ?_ | (refine st_want rfl rfl ?_; refine sq qls ?_)); (first | refine sk ?_ | refine skv ?_ | (refine st_want rfl rfl ?_; refine sq qm ?_)); (first | refine sk ?_ | refine skv ?_ | (refine st_want rfl rfl ?_; refine sq (by exact Qt.cast (v' := .int .i64 ((ll : Int) - (n : Int))) rfl (q_sub64 rfl rfl ⟨by omega, by omega⟩ rfl)) ?_)); (first | refine sk ?_ | refine skv ?_ | (refine st_want rfl rfl ?_; refine sq (by first | exact dgtrt | exact dgtrf) ?_)); refine sq (by first | exact qpt | exact qpf) ?_; refine l_nil ?_) | (refine c_region (id := 3) ?_; refine sq qm ?_; refine sq qn ?_; refine sq qf ?_; refine se ?_; (refine e_store1l rfl rfl rfl (by (repeat (first | exact List.Mem.head _ | apply List.Mem.tail))) (by first | (simp only [setL]; try exact rfl) | exact rfl) (by (repeat (first | exact Pl.here | apply Pl.there))) rfl (.inl (by simp [feet, InL, Chunk.foot])) ?_); refine l_nil ?_) | (refine c_region (id := 4) ?_; refine sq qa ?_; refine l_nil ?_) | refine n_then ?_ | refine c_block ?_ | refine c_skip ?_ | refine n_block ?_ | refine c_exit ?_ | refine n_then_exit ?_ | refine n_block_eq ?_ | refine n_block_ne rfl ?_ | refine c_ret ?_ | refine n_then_ret ?_ | refine n_block_ret ?_ | refine c_cond_t rfl ?_ | refine c_cond_f rfl ?_ | refine r_succ ?_ )
          (first | apply r_ret () | apply r_end ()); exact rfl; exact rfl; exact (.tmp rfl .nil); exact rfl; exact (by exact (by (repeat (first | exact List.nil_sublist _ | exact List.Sublist.slnil | apply List.Sublist.cons_cons | exact List.Sublist.refl _ | apply List.Sublist.cons)))); exact (fun g hg => .inl hg); exact trivial
        · refine enter (L := [.sl b cap 5 1 (xs.map (Value.int .u8)), .blk gi (.cells #[.slice lb ll lc, .bool false] 107 (0, 0))]) (X := feet (InL gi b cap xs lb ll lc false)) Tryz.func40 rfl Tryz.ntmps40 rfl rfl hL0 ?_
          repeat (first | refine c_seq ?_ | (refine c_region (id := 0) ?_; refine sq qa ?_; refine l_nil ?_) | (refine c_region (id := 1) ?_; refine sq qm ?_; refine se ?_; refine ecp rfl rfl (fun w hC hm hL => by have h9 := number_c gi lb ll lc (xs.drop (xs.length - ll)) hv.rest (fun y hy => hxb y (List.mem_of_mem_drop hy)) (by have := hv.le; omega) w (hL.old (k := 2) (by (repeat (first | exact List.Mem.head _ | apply List.Mem.tail))) (by rfl)) (hv.slE (SlE.own hL (by (repeat (first | exact List.Mem.head _ | apply List.Mem.tail))) ho)); rw [hnx] at h9; exact h9) ?_; intro m' hm'; refine sq qm ?_; refine sq qe ?_; refine sq qe ?_; refine sq qa ?_; refine sq qa ?_; refine l_nil ?_) | (refine c_region (id := 2) ?_; refine sq qm ?_; refine sq (by first | exact deqlt | exact deqlf) ?_; refine sq qm ?_; (first | refine sk ?_ | refine skv ?_ | (refine st_want rfl rfl ?_; refine sq qm ?_)); (first | refine sk ?_ | refine skv ?_ | (refine st_want rfl rfl ?_; refine sq (by first | exact dlsst | exact dlssf) ?_)); refine sq (by first | exact qpt | exact qpf) ?_; refine sq qm ?_; (first | refine sk ?_ | refine skv ?_ | (refine st_want rfl rfl ?_; refine sq qm ?_)); (first | refine sk ?_ | refine skv ?_ | (refine st_want rfl rfl ?_; refine sq qm ?_)); (first | refine sk ?_ | refine skv ?_ | (refine st_want rfl rfl ?_; refine sq (by exact Qt.cast (v' := .int .i64 (((min most.toNat 4096 : Nat)) : Int)) (congrArg (Value.int .i64) (by split <;> omega)) (q_min rfl rfl)) ?_)); (first | refine sk ?_ | refine skv ?_ | (refine st_want rfl rfl ?_; refine sq (by exact Qt.cast (v' := .int .u64 ((min most.toNat 4096 : Nat) : Int)) (congrArg (Value.int .u64) (by omega)) (q_convU rfl)) ?_)); (first | refine sk ?_ | refine skv ?_ | (refine st_want rfl rfl ?_; refine sq (by first | exact dgtrt | exact dgtrf) ?_)); refine sq (by first | exact qpt | exact qpf) ?_; refine sq qm ?_; (first | refine sk ?_ | refine skv ?_ | (refine st_want rfl rfl ?_; refine sq qm ?_)); (first | refine sk ?_ | refine skv ?_ | (refine st_want rfl rfl ?_; refine sq (by exact Qt.cast (v' := .int .i64 ((x : Nat) : Int)) (congrArg (Value.int .i64) (by omega)) (q_conv_i64 rfl (by omega) (by omega))) ?_)); (first | refine sk ?_ | refine skv ?_ | (refine st_want rfl rfl ?_; refine sq qm ?_)); (first | refine sk ?_ | refine skv ?_ | (refine st_want rfl rfl ?_; refine sq qn ?_)); (first | refine sk ?_ | refine skv ?_ | (refine st_want rfl rfl ?_; refine sq qf ?_)); (first | refine sk ?_ | refine skv ?_ | (refine st_want rfl rfl ?_; refine sq ql ?_)); (first | refine sk ?_ | refine skv ?_ | (refine st_want rfl rfl ?_; refine sq qls ?_)); (first | refine sk ?_ | refine skv ?_ | (refine st_want rfl rfl ?_; refine sq qm ?_)); (first | refine sk ?_ | refine skv ?_ | (refine st_want rfl rfl ?_; refine sq (by exact Qt.cast (v' := .int .i64 ((ll : Int) - (n : Int))) rfl (q_sub64 rfl rfl ⟨by omega, by omega⟩ rfl)) ?_)); (first | refine sk ?_ | refine skv ?_ | (refine st_want rfl rfl ?_; refine sq (by first | exact dgtrt | exact dgtrf) ?_)); refine sq (by first | exact qpt | exact qpf) ?_; refine l_nil ?_) | (refine c_region (id := 3) ?_; refine sq qm ?_; refine sq qn ?_; refine sq qf ?_; refine se ?_; (refine e_store1l rfl rfl rfl (by (repeat (first | exact List.Mem.head _ | apply List.Mem.tail))) (by first | (simp only [setL]; try exact rfl) | exact rfl) (by (repeat (first | exact Pl.here | apply Pl.there))) rfl (.inl (by simp [feet, InL, Chunk.foot])) ?_); refine l_nil ?_) | (refine c_region (id := 4) ?_; refine sq qa ?_; refine l_nil ?_) | refine n_then ?_ | refine c_block ?_ | refine c_skip ?_ | refine n_block ?_ | refine c_exit ?_ | refine n_then_exit ?_ | refine n_block_eq ?_ | refine n_block_ne rfl ?_ | refine c_ret ?_ | refine n_then_ret ?_ | refine n_block_ret ?_ | refine c_cond_t rfl ?_ | refine c_cond_f rfl ?_ | refine r_succ ?_ )
          (first | apply r_ret () | apply r_end ()); exact rfl; exact rfl; exact (.tmp rfl .nil); exact rfl; exact (by exact (by (repeat (first | exact List.nil_sublist _ | exact List.Sublist.slnil | apply List.Sublist.cons_cons | exact List.Sublist.refl _ | apply List.Sublist.cons)))); exact (fun g hg => .inl hg); exact trivial
end Go.Proofs.YtgmghkakiocmjaaGreatDoor
namespace Go.Proofs.YtgmghkakiocmjaaGreatDoor
open Go Go.RowKit
set_option linter.unusedVariables false
set_option linter.unusedSimpArgs false
def recF : Nat → List Int → List (List Int)
  | 0, _ => []
  | k + 1, ys => if (numX ys).2 ≠ 0 ∧ (numX ys).1 ≤ 4096 ∧ (numX ys).2 + (numX ys).1 ≤ ys.length then (ys.drop (numX ys).2).take (numX ys).1 :: recF k (ys.drop ((numX ys).2 + (numX ys).1)) else []
def recs (ys : List Int) : List (List Int) := recF ys.length ys
theorem recF_big : ∀ (k : Nat) (ys : List Int), ys.length ≤ k → recF k ys = recF ys.length ys
  | 0, ys, h => by
    obtain rfl : ys = [] := List.eq_nil_of_length_eq_zero (by omega)
    rfl
  | k + 1, ys, h => by
    by_cases hc : (numX ys).2 ≠ 0 ∧ (numX ys).1 ≤ 4096 ∧ (numX ys).2 + (numX ys).1 ≤ ys.length
    · obtain ⟨m, hm⟩ : ∃ m, ys.length = m + 1 := ⟨ys.length - 1, by omega⟩
      have e1 : recF (k + 1) ys = (ys.drop (numX ys).2).take (numX ys).1 :: recF k (ys.drop ((numX ys).2 + (numX ys).1)) := by rw [recF, if_pos hc]
      have e2 : recF (m + 1) ys = (ys.drop (numX ys).2).take (numX ys).1 :: recF m (ys.drop ((numX ys).2 + (numX ys).1)) := by rw [recF, if_pos hc]
      rw [e1, hm, e2, recF_big k _ (by simp; omega), recF_big m _ (by simp; omega)]
    · have e1 : recF (k + 1) ys = [] := by rw [recF, if_neg hc]
      rw [e1]
      cases hl : ys.length with
      | zero => rfl
      | succ m => rw [recF, if_neg hc]
  termination_by k => k
theorem recs_ok {ys : List Int} {x n : Nat} (hx : numX ys = (x, n)) (hn : n ≠ 0) (h4 : x ≤ 4096) (hl : n + x ≤ ys.length) : recs ys = (ys.drop n).take x :: recs (ys.drop (n + x)) := by
  obtain ⟨m, hm⟩ : ∃ m, ys.length = m + 1 := ⟨ys.length - 1, by omega⟩
  unfold recs
  rw [hm, recF, hx]
  dsimp only
  rw [if_pos ⟨hn, h4, by omega⟩, recF_big m _ (by simp; omega)]
theorem recs_no {ys : List Int} (h : (numX ys).2 = 0 ∨ 4096 < (numX ys).1 ∨ ys.length < (numX ys).2 + (numX ys).1) : recs ys = [] := by
  unfold recs
  cases hl : ys.length with
  | zero => rfl
  | succ m => rw [recF, if_neg (by omega)]
structure PW (p : CPrt) : Prop where
  l : p.xs.length = p.len
  c : p.len ≤ p.cap
  r : ∀ x ∈ p.xs, 0 ≤ x ∧ x ≤ 255
theorem pw_ok {p : CPrt} {L : List Chunk} {w : World} (hL : Has L w) (hm : Chunk.sl p.a p.cap 5 1 (p.xs.map (Value.int .u8)) ∈ L) (h : PW p) : p.Ok w := by
  have hb := hL.ok _ hm
  simp only [Chunk.ok] at hb
  refine ⟨⟨?_⟩, h.l, h.c, h.r⟩
  rcases hb with ⟨_, _, h9⟩ | ⟨g, cs, e, k1, k2, k3⟩
  · exact .inl (by simpa using h9)
  · refine .inr ⟨g, 0, e, ?_⟩
    rw [e] at hm
    exact hL.old_sl (k := (p.xs.map (Value.int .u8)).length) hm (by rw [List.drop_zero, List.take_of_length_le (Nat.le_refl _)])
theorem secC_foot2 {k : Nat} {X : List Nat} {ps : List CPrt} (h : ∀ p ∈ ps, ∀ g, p.a = some ⟨g, 0, none⟩ → k ≤ g) (h2 : ∀ p ∈ ps, p.a = none ∨ ∃ g, p.a = some ⟨g, 0, none⟩) : ∀ g ∈ feet (secC ps), g ∈ X ∨ k ≤ g := by
  intro g hg
  obtain ⟨c, hc, hg⟩ := List.mem_flatMap.1 hg
  simp only [secC, List.mem_map] at hc
  obtain ⟨p, hp, rfl⟩ := hc
  rcases h2 p hp with e | ⟨g9, e⟩
  · rw [e] at hg; simp [Chunk.foot] at hg
  · rw [e] at hg; simp [Chunk.foot] at hg; rw [hg]; exact .inr (h p hp g9 e)
set_option maxRecDepth 100000 in
set_option maxHeartbeats 4000000 in
theorem records_c (gs : Nat) (at_ : Bool) (ga : Nat) (ba : Option Addr) (ca : Nat) (ha : Hd) (bsa : List Int) (fra gb : Nat) (bb : Option Addr) (cb : Nat) (hb : Hd) (bsb : List Int) (frb room gd : Nat) (hroom : room ≤ 60000) (hla : bsa.length ≤ room) (hra : ∀ x ∈ bsa, 0 ≤ x ∧ x ≤ 255) (hbka : BK ba ca bsa.length) (w : World) (hS : Has (StL gs at_ ga ba ca ha bsa fra gb bb cb hb bsb frb room gd) w) :
    CA Tryz.prog 15 [.pointer (some ⟨gs, 0, none⟩)] w (Ret (fun z : Option Addr × Nat × List CPrt => .slice z.1 z.2.2.length z.2.1) [] (fun z => .sl z.1 z.2.1 46 1 ((z.2.2).map CPrt.v) :: secC z.2.2) (fun z => BK z.1 z.2.1 z.2.2.length ∧ z.2.2.map (·.xs) = recs bsa ∧ ∀ p ∈ z.2.2, PW p) w) := by
  refine enter (L := (StL gs at_ ga ba ca ha bsa fra gb bb cb hb bsb frb room gd)) (X := []) Tryz.func15 rfl Tryz.ntmps15 rfl rfl hS ?_
  repeat (first | refine c_seq ?_ | (refine c_region (id := 0) ?_; refine sq qa ?_; refine l_nil ?_) | (refine c_region (id := 1) ?_; refine sq qa ?_; refine l_nil ?_) | (refine c_region (id := 2) ?_; refine sq qm ?_; refine se ?_; refine ecp rfl rfl (fun w hC hm hL => by exact slog_c at_ gs ga gb w (hL.old (k := 3) (by (repeat (first | exact List.Mem.head _ | apply List.Mem.tail))) (by cases at_ <;> rfl))) ?_; intro m' hm'; refine se ?_; refine e_callL (enc := (Value.int .u8)) (e := 5) rfl rfl (by kernel_rfl) rfl (fun w hC hm hL => by exact lbytes_c ga gd fra room ha ba ca false bsa (by omega) w (SlE.own hL (by (repeat (first | exact List.Mem.head _ | apply List.Mem.tail))) (os_bk hbka)) (hL.sub (by (repeat (first | exact List.nil_sublist _ | exact List.Sublist.slnil | apply List.Sublist.cons_cons | exact List.Sublist.refl _ | apply List.Sublist.cons))))) ?_; intro b6 cap6 zs6 m6 hz6 ho6 hm6; refine se ?_; refine ecl rfl rfl (fun w hC hm hL => by exact read_c b6 zs6.length cap6 zs6 rfl (by rw [hz6]; omega) w (SlE.own hL (by (repeat (first | exact List.Mem.head _ | apply List.Mem.tail))) ho6)) ?_; intro z1 m1 hz1 hn1 hm1; obtain ⟨gi, b, cap⟩ := z1; dsimp only at hz1 ⊢; refine sq qa ?_; refine l_nil ?_) | refine n_then ?_ | refine c_block ?_ | refine c_skip ?_ | refine n_block ?_ | refine c_exit ?_ | refine n_then_exit ?_ | refine n_block_eq ?_ | refine n_block_ne rfl ?_ | refine c_ret ?_ | refine n_then_ret ?_ | refine n_block_ret ?_ | refine c_cond_t rfl ?_ | refine c_cond_f rfl ?_ | refine r_succ ?_ )
  rw [hz6] at hz1 ⊢
  have hob : OS [] 0 b cap bsa.length := hz1
  have hbn9 : ∀ g, b = some ⟨g, 0, none⟩ → w.heap.size ≤ g := fun g e => by have := hn1 g (by simp [feet, Chunk.foot, e]); omega
  have hob9 : BK b cap bsa.length := hob.ret
  have hgi : w.heap.size ≤ gi := by have := hn1 gi (by simp [feet, Chunk.foot]); omega
  refine add_nil 46 1 ?_
  refine c_loop (γ := List CPrt × (Option Addr × Nat) × (Option Addr × Nat × Nat) × Nat) (fun z => [(4, .pointer (some ⟨gi, 0, none⟩)), (3, .slice z.2.1.1 z.1.length z.2.1.2)]) (fun z => z.2.2.2) (fun z => .sl z.2.1.1 z.2.1.2 46 1 ((z.1).map CPrt.v) :: (.sl b cap 5 1 (bsa.map (Value.int .u8))) :: (.blk gi (.cells #[.slice z.2.2.1.1 z.2.2.1.2.1 z.2.2.1.2.2, .bool false] 107 (0, 0))) :: secC z.1) (fun z => OS [] w.heap.size z.2.1.1 z.2.1.2 z.1.length ∧ LV b bsa z.2.2.1.1 z.2.2.1.2.1 z.2.2.1.2.2 ∧ z.1.map (·.xs) ++ recs (bsa.drop (bsa.length - z.2.2.1.2.1)) = recs bsa ∧ (∀ p ∈ z.1, PW p) ∧ (∀ p ∈ z.1, ∀ g, p.a = some ⟨g, 0, none⟩ → w.heap.size ≤ g) ∧ (∀ p ∈ z.1, p.a = none ∨ ∃ g, p.a = some ⟨g, 0, none⟩) ∧ z.1.length + z.2.2.1.2.1 ≤ bsa.length ∧ w.heap.size ≤ z.2.2.2) (fun z => z.2.2.1.2.1) ⟨[], (none, 0), (b, bsa.length, cap), m1⟩ ⟨OS.nil _ _, LV.all hob, by simp, by simp, by simp, by simp, by simp, by dsimp only; omega⟩ ⟨rfl, rfl, trivial⟩ rfl (by exact (by (repeat (first | exact List.nil_sublist _ | exact List.Sublist.slnil | apply List.Sublist.cons_cons | exact List.Sublist.refl _ | apply List.Sublist.cons)))) ?_
  rintro ⟨ps, ⟨bo, co⟩, ⟨lb, ll, lc⟩, mm⟩ ⟨ho, hv, hrec, hpw, hpn, hpa, hpl, hmm⟩
  dsimp only at ho hv hrec hpw hpn hpa hpl hmm ⊢
  have hvl := hv.le
  by_cases h0 : ll = 0
  · have e9 : bsa.drop (bsa.length - ll) = [] := by rw [List.drop_eq_nil_iff]; omega
    rw [e9] at hrec
    repeat (first | refine c_seq ?_ | (refine c_region (id := 3) ?_; refine sq qm ?_; refine se ?_; refine ecp rfl rfl (fun w hC hm hL => by exact left_c gi lb ll lc false w (hL.old (k := 2) (by (repeat (first | exact List.Mem.head _ | apply List.Mem.tail))) (by rfl))) ?_; intro m' hm'; refine sq (by first | exact dgtrt | exact dgtrf) ?_; refine l_nil ?_) | (refine c_region (id := 7) ?_; refine sq qm ?_; refine sq qa ?_; refine l_nil ?_) | refine n_then ?_ | refine c_block ?_ | refine c_skip ?_ | refine n_block ?_ | refine c_exit ?_ | refine n_then_exit ?_ | refine n_block_eq ?_ | refine n_block_ne rfl ?_ | refine c_ret ?_ | refine n_then_ret ?_ | refine n_block_ret ?_ | refine c_cond_t rfl ?_ | refine c_cond_f rfl ?_ | refine r_succ ?_ )
    (first | apply r_ret (bo, co, ps) | apply r_end (bo, co, ps)); exact rfl; exact rfl; exact (.tmp rfl .nil); exact rfl; exact (by exact (by (repeat (first | exact List.nil_sublist _ | exact List.Sublist.slnil | apply List.Sublist.cons_cons | exact List.Sublist.refl _ | apply List.Sublist.cons)))); exact (new_sl ho.newc (secC_foot2 hpn hpa)); exact ⟨ho.ret, by rw [← hrec]; simp [recs, recF], hpw⟩
  obtain ⟨ys, hys⟩ : ∃ ys, ys = bsa.drop (bsa.length - ll) := ⟨_, rfl⟩
  have hyl : ys.length = ll := by rw [hys]; simp; omega
  obtain ⟨⟨x, n⟩, hxn⟩ : ∃ xn, numX ys = xn := ⟨_, rfl⟩
  rw [← hys] at hrec
  by_cases hok : n ≠ 0 ∧ x ≤ 4096 ∧ n + x ≤ ll
  · obtain ⟨hn0, hx4, hnx⟩ := hok
    have hr2 := recs_ok hxn hn0 hx4 (by omega)
    have hdr : bsa.drop (bsa.length - (ll - n - x)) = ys.drop (n + x) := by rw [hys, List.drop_drop]; congr 1; omega
    have hdr2 : bsa.drop (bsa.length - (ll - n)) = ys.drop n := by rw [hys, List.drop_drop]; congr 1; omega
    have hlen4 : ((ys.drop n).take x).length = x := by simp; omega
    repeat (first | refine c_seq ?_ | (refine c_region (id := 3) ?_; refine sq qm ?_; refine se ?_; refine ecp rfl rfl (fun w hC hm hL => by exact left_c gi lb ll lc false w (hL.old (k := 2) (by (repeat (first | exact List.Mem.head _ | apply List.Mem.tail))) (by rfl))) ?_; intro m' hm'; refine sq (by first | exact dgtrt | exact dgtrf) ?_; refine l_nil ?_) | (refine c_region (id := 4) ?_; refine sq qm ?_; refine se ?_; refine e_callX [(.sl b cap 5 1 (bsa.map (Value.int .u8))), (.blk gi (.cells #[.slice lb ll lc, .bool false] 107 (0, 0)))] _ rfl rfl (by kernel_rfl) rfl (by (repeat (first | exact Sp.nil | (apply Sp.cons; focus (repeat (first | exact Rm.here | apply Rm.there)))))) (fun w hC hm hA hL hap => by exact itext_c gi b cap bsa hra (by omega) lb ll lc false hv w hob hA 4096 ⟨by omega, by omega⟩ x n (by rw [← hys]; exact hxn) hn0 (by omega) hx4 (by omega)) (by intro g hg; simp only [feet, List.flatMap_cons, List.mem_append] at hg; rcases hg with h9 | h9; exact bk_new hob9 hbn9 g h9; (simp [Chunk.foot] at h9; exact .inr (by omega))) (fun _ => rfl) ?_; intro z4 m4 hz4 hn4 hm4; obtain ⟨b4, cap4, lb4⟩ := z4; dsimp only at hz4 hn4 ⊢; refine sq qa ?_; refine l_nil ?_) | refine n_then ?_ | refine c_block ?_ | refine c_skip ?_ | refine n_block ?_ | refine c_exit ?_ | refine n_then_exit ?_ | refine n_block_eq ?_ | refine n_block_ne rfl ?_ | refine c_ret ?_ | refine n_then_ret ?_ | refine n_block_ret ?_ | refine c_cond_t rfl ?_ | refine c_cond_f rfl ?_ | refine r_succ ?_ )
    rw [hdr2]
    repeat (first | refine c_seq ?_ | (refine c_region (id := 5) ?_; refine sq qm ?_; refine se ?_; refine ecp rfl rfl (fun w hC hm hL => by exact bad_c gi _ false w (hL.old (k := 2) (by (repeat (first | exact List.Mem.head _ | apply List.Mem.tail))) (by rfl))) ?_; intro m' hm'; refine l_nil ?_) | (refine c_region (id := 6) ?_; refine sq qm ?_; refine sq qm ?_; refine se ?_; refine ebs ?_; refine se ?_; refine e_appM CPrt.v ps (⟨b4, x, cap4, (ys.drop n).take x⟩ : CPrt) rfl rfl rfl (by (repeat (first | exact Rm.here | apply Rm.there))) (by (repeat (first | exact List.Mem.head _ | apply List.Mem.tail))) rfl ho (by rfl) (by omega) (by omega) ?_; intro b2 cap2 m2 ho2 hm2; refine sq qa ?_; refine l_nil ?_) | refine n_then ?_ | refine c_block ?_ | refine c_skip ?_ | refine n_block ?_ | refine c_exit ?_ | refine n_then_exit ?_ | refine n_block_eq ?_ | refine n_block_ne rfl ?_ | refine c_ret ?_ | refine n_then_ret ?_ | refine n_block_ret ?_ | refine c_cond_t rfl ?_ | refine c_cond_f rfl ?_ | refine r_succ ?_ )
    refine prm (L' := .sl b2 cap2 46 1 (((ps ++ [(⟨b4, x, cap4, (ys.drop n).take x⟩ : CPrt)])).map CPrt.v) :: _ :: (.sl b cap 5 1 (bsa.map (Value.int .u8))) :: (.blk gi (.cells #[.slice lb4 (ll - n - x) (lc - n - x), .bool false] 107 (0, 0))) :: (secC ps ++ [.sl b4 cap4 5 1 (((ys.drop n).take x).map (Value.int .u8))])) (List.Perm.append_left [_, _] (List.perm_append_comm (l₁ := [_]) (l₂ := [_, _] ++ secC ps))) ?_
    refine c_round ⟨ps ++ [(⟨b4, x, cap4, (ys.drop n).take x⟩ : CPrt)], (b2, cap2), (lb4, ll - n - x, lc - n - x), m2⟩ ⟨by simpa using ho2, hz4.2, by rw [hdr]; simp only [List.map_append, List.map_cons, List.map_nil, List.append_assoc, List.cons_append, List.nil_append]; rw [← hr2]; exact hrec, fun q hq => ?_, fun q hq g e => ?_, fun q hq => ?_, by simp; omega, by dsimp only; omega⟩ (by dsimp only; omega) ⟨rfl, by simp; try rfl, trivial⟩ (by rfl) (by dsimp only; rw [secC_succ]; exact (by (repeat (first | exact List.nil_sublist _ | exact List.Sublist.slnil | apply List.Sublist.cons_cons | exact List.Sublist.refl _ | apply List.Sublist.cons))))
    · rcases List.mem_append.1 hq with h1 | h1
      · exact hpw q h1
      · simp only [List.mem_singleton] at h1
        subst h1
        exact ⟨hlen4, hz4.1.le, fun v hv9 => hra v (by have h7 := List.mem_of_mem_drop (List.mem_of_mem_take hv9); rw [hys] at h7; exact List.mem_of_mem_drop h7)⟩
    · rcases List.mem_append.1 hq with h1 | h1
      · exact hpn q h1 g e
      · simp only [List.mem_singleton] at h1
        subst h1
        have e : b4 = some ⟨g, 0, none⟩ := e
        have h7 := hn4 g (by simp [feet, Chunk.foot, e])
        simp at h7
        exact h7
    · rcases List.mem_append.1 hq with h1 | h1
      · exact hpa q h1
      · simp only [List.mem_singleton] at h1
        subst h1
        exact hz4.1.ob.imp (fun h => h.1) id
  · have hno : false = true ∨ (numX (bsa.drop (bsa.length - ll))).2 = 0 ∨ (4096 : Int) < 0 ∨ (4096 : Int) < ((numX (bsa.drop (bsa.length - ll))).1 : Int) ∨ 4096 < (numX (bsa.drop (bsa.length - ll))).1 ∨ ll < (numX (bsa.drop (bsa.length - ll))).2 + (numX (bsa.drop (bsa.length - ll))).1 := by
      rw [← hys, hxn]
      dsimp only
      omega
    have hr2 := recs_no (ys := ys) (by rw [hxn]; dsimp only; omega)
    rw [hr2] at hrec
    repeat (first | refine c_seq ?_ | (refine c_region (id := 3) ?_; refine sq qm ?_; refine se ?_; refine ecp rfl rfl (fun w hC hm hL => by exact left_c gi lb ll lc false w (hL.old (k := 2) (by (repeat (first | exact List.Mem.head _ | apply List.Mem.tail))) (by rfl))) ?_; intro m' hm'; refine sq (by first | exact dgtrt | exact dgtrf) ?_; refine l_nil ?_) | (refine c_region (id := 4) ?_; refine sq qm ?_; refine se ?_; refine e_callX [(.sl b cap 5 1 (bsa.map (Value.int .u8))), (.blk gi (.cells #[.slice lb ll lc, .bool false] 107 (0, 0)))] _ rfl rfl (by kernel_rfl) rfl (by (repeat (first | exact Sp.nil | (apply Sp.cons; focus (repeat (first | exact Rm.here | apply Rm.there)))))) (fun w hC hm hA hL hap => by exact itextno_c gi b cap bsa hra (by omega) lb ll lc false hv w hob hA 4096 ⟨by omega, by omega⟩ hno) (by intro g hg; simp only [feet, List.flatMap_cons, List.mem_append] at hg; rcases hg with h9 | h9; exact bk_new hob9 hbn9 g h9; (simp [Chunk.foot] at h9; exact .inr (by omega))) (fun _ => rfl) ?_; intro _ m4 _ hn4 hm4; refine sq qa ?_; refine l_nil ?_) | (refine c_region (id := 5) ?_; refine sq qm ?_; refine se ?_; refine ecp rfl rfl (fun w hC hm hL => by exact bad_c gi _ true w (hL.old (k := 2) (by (repeat (first | exact List.Mem.head _ | apply List.Mem.tail))) (by rfl))) ?_; intro m' hm'; refine l_nil ?_) | (refine c_region (id := 7) ?_; refine sq qm ?_; refine sq qa ?_; refine l_nil ?_) | refine n_then ?_ | refine c_block ?_ | refine c_skip ?_ | refine n_block ?_ | refine c_exit ?_ | refine n_then_exit ?_ | refine n_block_eq ?_ | refine n_block_ne rfl ?_ | refine c_ret ?_ | refine n_then_ret ?_ | refine n_block_ret ?_ | refine c_cond_t rfl ?_ | refine c_cond_f rfl ?_ | refine r_succ ?_ )
    (first | apply r_ret (bo, co, ps) | apply r_end (bo, co, ps)); exact rfl; exact rfl; exact (.tmp rfl .nil); exact rfl; exact (by exact (by (repeat (first | exact List.nil_sublist _ | exact List.Sublist.slnil | apply List.Sublist.cons_cons | exact List.Sublist.refl _ | apply List.Sublist.cons)))); exact (new_sl ho.newc (secC_foot2 hpn hpa)); exact ⟨ho.ret, by rw [← hrec]; simp, hpw⟩
end Go.Proofs.YtgmghkakiocmjaaGreatDoor
namespace Go.Proofs.YtgmghkakiocmjaaGreatDoor
open Go Go.RowKit
set_option linter.unusedVariables false
set_option linter.unusedSimpArgs false
set_option maxRecDepth 100000 in
set_option maxHeartbeats 4000000 in
theorem sroom_c (gs : Nat) (at_ : Bool) (ga : Nat) (ba : Option Addr) (ca : Nat) (ha : Hd) (bsa : List Int) (fra gb : Nat) (bb : Option Addr) (cb : Nat) (hb : Hd) (bsb : List Int) (frb room gd : Nat) (hr : bsa.length ≤ room ∧ room ≤ 100000000) (w : World) (hS : Has (StL gs at_ ga ba ca ha bsa fra gb bb cb hb bsb frb room gd) w) : CA Tryz.prog 16 [.pointer (some ⟨gs, 0, none⟩)] w (RV (.int .i64 ((room : Int) - bsa.length)) w) := by
  refine enter (L := (StL gs at_ ga ba ca ha bsa fra gb bb cb hb bsb frb room gd)) (X := []) Tryz.func16 rfl Tryz.ntmps16 rfl rfl hS ?_
  repeat (first | refine c_seq ?_ | (refine c_region (id := 0) ?_; refine sq qa ?_; refine l_nil ?_) | (refine c_region (id := 1) ?_; refine sq qm ?_; refine se ?_; refine ecp rfl rfl (fun w hC hm hL => by exact slog_c at_ gs ga gb w (hL.old (k := 3) (by (repeat (first | exact List.Mem.head _ | apply List.Mem.tail))) (by cases at_ <;> rfl))) ?_; intro m' hm'; refine se ?_; refine ecp rfl rfl (fun w hC hm hL => by exact room_c ga gd fra room ha ba bsa.length ca false hr w (hL.sub (by (repeat (first | exact List.nil_sublist _ | exact List.Sublist.slnil | apply List.Sublist.cons_cons | exact List.Sublist.refl _ | apply List.Sublist.cons))))) ?_; intro m' hm'; refine sq qa ?_; refine l_nil ?_) | refine n_then ?_ | refine c_block ?_ | refine c_skip ?_ | refine n_block ?_ | refine c_exit ?_ | refine n_then_exit ?_ | refine n_block_eq ?_ | refine n_block_ne rfl ?_ | refine c_ret ?_ | refine n_then_ret ?_ | refine n_block_ret ?_ | refine c_cond_t rfl ?_ | refine c_cond_f rfl ?_ | refine r_succ ?_ )
  (first | apply r_ret () | apply r_end ()); exact rfl; exact rfl; exact (.tmp rfl .nil); exact rfl; exact (List.nil_sublist _); exact new_nil; exact trivial
set_option maxRecDepth 100000 in
set_option maxHeartbeats 4000000 in
theorem sgen_c (gs : Nat) (at_ : Bool) (ga : Nat) (ba : Option Addr) (ca : Nat) (ha : Hd) (bsa : List Int) (fra gb : Nat) (bb : Option Addr) (cb : Nat) (hb : Hd) (bsb : List Int) (frb room gd : Nat) (hK : RB ha.nt) (w : World) (hS : Has (StL gs at_ ga ba ca ha bsa fra gb bb cb hb bsb frb room gd) w) : CA Tryz.prog 17 [.pointer (some ⟨gs, 0, none⟩)] w (RV (.int .u64 (genH ha)) w) := by
  refine enter (L := (StL gs at_ ga ba ca ha bsa fra gb bb cb hb bsb frb room gd)) (X := []) Tryz.func17 rfl Tryz.ntmps17 rfl rfl hS ?_
  repeat (first | refine c_seq ?_ | (refine c_region (id := 0) ?_; refine sq qa ?_; refine l_nil ?_) | (refine c_region (id := 1) ?_; refine sq qm ?_; refine se ?_; refine ecp rfl rfl (fun w hC hm hL => by exact slog_c at_ gs ga gb w (hL.old (k := 3) (by (repeat (first | exact List.Mem.head _ | apply List.Mem.tail))) (by cases at_ <;> rfl))) ?_; intro m' hm'; refine se ?_; refine ecp rfl rfl (fun w hC hm hL => by exact gener_c ga gd fra room ha hK _ false w (hL.sub (by (repeat (first | exact List.nil_sublist _ | exact List.Sublist.slnil | apply List.Sublist.cons_cons | exact List.Sublist.refl _ | apply List.Sublist.cons))))) ?_; intro m' hm'; refine sq qa ?_; refine l_nil ?_) | refine n_then ?_ | refine c_block ?_ | refine c_skip ?_ | refine n_block ?_ | refine c_exit ?_ | refine n_then_exit ?_ | refine n_block_eq ?_ | refine n_block_ne rfl ?_ | refine c_ret ?_ | refine n_then_ret ?_ | refine n_block_ret ?_ | refine c_cond_t rfl ?_ | refine c_cond_f rfl ?_ | refine r_succ ?_ )
  (first | apply r_ret () | apply r_end ()); exact rfl; exact rfl; exact (.tmp rfl .nil); exact rfl; exact (List.nil_sublist _); exact new_nil; exact trivial
set_option maxRecDepth 100000 in
set_option maxHeartbeats 4000000 in
theorem sover_c (gs : Nat) (at_ : Bool) (ga : Nat) (ba : Option Addr) (ca : Nat) (ha : Hd) (bsa : List Int) (fra gb : Nat) (bb : Option Addr) (cb : Nat) (hb : Hd) (bsb : List Int) (frb room gd : Nat) (w : World) (hS : Has (StL gs at_ ga ba ca ha bsa fra gb bb cb hb bsb frb room gd) w) : CA Tryz.prog 18 [.pointer (some ⟨gs, 0, none⟩)] w (RV (.bool false) w) := by
  refine enter (L := (StL gs at_ ga ba ca ha bsa fra gb bb cb hb bsb frb room gd)) (X := []) Tryz.func18 rfl Tryz.ntmps18 rfl rfl hS ?_
  repeat (first | refine c_seq ?_ | (refine c_region (id := 0) ?_; refine sq qa ?_; refine l_nil ?_) | (refine c_region (id := 1) ?_; refine sq qm ?_; refine se ?_; refine ecp rfl rfl (fun w hC hm hL => by exact slog_c at_ gs ga gb w (hL.old (k := 3) (by (repeat (first | exact List.Mem.head _ | apply List.Mem.tail))) (by cases at_ <;> rfl))) ?_; intro m' hm'; refine se ?_; refine ecp rfl rfl (fun w hC hm hL => by first | exact lover_c ga gd fra room ha _ false w (hL.sub (by (repeat (first | exact List.nil_sublist _ | exact List.Sublist.slnil | apply List.Sublist.cons_cons | exact List.Sublist.refl _ | apply List.Sublist.cons)))) | exact lover_c gb gd frb room hb _ false w (hL.sub (by (repeat (first | exact List.nil_sublist _ | exact List.Sublist.slnil | apply List.Sublist.cons_cons | exact List.Sublist.refl _ | apply List.Sublist.cons))))) ?_; intro m' hm'; refine sq qm ?_; (first | refine sk ?_ | refine skv ?_ | (refine st_want rfl rfl ?_; refine sq qm ?_)); (first | refine sk ?_ | refine skv ?_ | (refine st_want rfl rfl ?_; refine se ?_; refine ecp rfl rfl (fun w hC hm hL => by exact soth_c at_ gs ga gb w (hL.old (k := 3) (by (repeat (first | exact List.Mem.head _ | apply List.Mem.tail))) (by cases at_ <;> rfl))) ?_; intro m' hm')); (first | refine sk ?_ | refine skv ?_ | (refine st_want rfl rfl ?_; refine se ?_; refine ecp rfl rfl (fun w hC hm hL => by first | exact lover_c ga gd fra room ha _ false w (hL.sub (by (repeat (first | exact List.nil_sublist _ | exact List.Sublist.slnil | apply List.Sublist.cons_cons | exact List.Sublist.refl _ | apply List.Sublist.cons)))) | exact lover_c gb gd frb room hb _ false w (hL.sub (by (repeat (first | exact List.nil_sublist _ | exact List.Sublist.slnil | apply List.Sublist.cons_cons | exact List.Sublist.refl _ | apply List.Sublist.cons))))) ?_; intro m' hm')); refine sq (by first | exact qpt | exact qpf) ?_; refine sq qa ?_; refine l_nil ?_) | refine n_then ?_ | refine c_block ?_ | refine c_skip ?_ | refine n_block ?_ | refine c_exit ?_ | refine n_then_exit ?_ | refine n_block_eq ?_ | refine n_block_ne rfl ?_ | refine c_ret ?_ | refine n_then_ret ?_ | refine n_block_ret ?_ | refine c_cond_t rfl ?_ | refine c_cond_f rfl ?_ | refine r_succ ?_ )
  (first | apply r_ret () | apply r_end ()); exact rfl; exact rfl; exact (.tmp rfl .nil); exact rfl; exact (List.nil_sublist _); exact new_nil; exact trivial
def packL (ps : List CPrt) : List Int := ps.flatMap fun p => leb p.xs.length ++ p.xs
theorem packL_succ {ps : List CPrt} {i : Nat} {p : CPrt} (h : ps[i]? = some p) : packL (ps.take (i + 1)) = packL (ps.take i) ++ (leb p.xs.length ++ p.xs) := by
  unfold packL
  rw [List.take_add_one, h]
  simp
theorem leb2 {n : Nat} (h : n ≤ 4096) : (leb n).length ≤ 2 ∧ 1 ≤ (leb n).length := by
  by_cases h1 : n < 128
  · rw [leb_small h1]; simp
  · rw [leb_big h1, leb_small (show n / 128 < 128 by omega)]; simp
theorem txS_ok {ys : List Int} (h : ys.length ≤ 4096) : txS [] false ys = (leb ys.length ++ ys, false) := by
  have h2 := leb2 h
  have e1 : pS [] false (leb ys.length) = (leb ys.length, false) := by
    unfold pS
    rw [if_neg (by simp; omega)]
    simp
  unfold txS
  rw [if_neg (by omega), e1]
  dsimp only
  unfold pS
  rw [if_neg (by simp; omega)]
theorem packL_rng {ps : List CPrt} (h : ∀ p ∈ ps, ∀ x ∈ p.xs, 0 ≤ x ∧ x ≤ 255) : ∀ x ∈ packL ps, 0 ≤ x ∧ x ≤ 255 := by
  intro x hx
  obtain ⟨p, hp, hx⟩ := List.mem_flatMap.1 hx
  exact (List.mem_append.1 hx).elim (leb_bd _ x) (h p hp x)
theorem packL_le (ps : List CPrt) (i : Nat) : (packL (ps.take i)).length ≤ (packL ps).length := by
  have h : packL ps = packL (ps.take i) ++ packL (ps.drop i) := by
    unfold packL
    rw [← List.flatMap_append, List.take_append_drop]
  rw [h]; simp
theorem bk_ob {b : Option Addr} {cap : Nat} {xs : List Int} (h : BK b cap xs.length) : OB b (xs.map (Value.int .u8)) := h.2.2.imp (fun ⟨h1, h2⟩ => ⟨h1, by rw [List.eq_nil_of_length_eq_zero h2]; rfl⟩) id
set_option maxRecDepth 100000 in
set_option maxHeartbeats 4000000 in
theorem packed_ok (gs : Nat) (at_ : Bool) (ga : Nat) (ba : Option Addr) (ca : Nat) (ha : Hd) (bsa : List Int) (fra gb : Nat) (bb : Option Addr) (cb : Nat) (hb : Hd) (bsb : List Int) (frb room gd : Nat) (ap : Option Addr) (cp0 : Nat) (ps : List CPrt) (rm : Nat) (hrm : rm ≤ 60000) (hps4 : ∀ p ∈ ps, p.len ≤ 4096) (hfit : (packL ps).length ≤ rm) (hpn : ps.length ≤ 1000000) (w : World) (hS : Has (StL gs at_ ga ba ca ha bsa fra gb bb cb hb bsb frb room gd) w) (hps : ∀ p ∈ ps, p.Ok w) (hO : SlE CPrt.v w ap ps) :
    CA Tryz.prog 26 [.pointer (some ⟨gs, 0, none⟩), .slice ap ps.length cp0, .int .i64 (rm : Int)] w (Ret (fun z : Option Addr × Nat => .tuple #[.slice z.1 (packL ps).length z.2, .nilIface]) [] (fun z => [.sl z.1 z.2 5 1 ((packL ps).map (Value.int .u8))]) (fun z => BK z.1 z.2 (packL ps).length) w) := by
  refine enter (L := (StL gs at_ ga ba ca ha bsa fra gb bb cb hb bsb frb room gd)) (X := []) Tryz.func26 rfl Tryz.ntmps26 rfl rfl hS ?_
  repeat (first | refine c_seq ?_ | (refine c_region (id := 0) ?_; refine sq qa ?_; refine sq qa ?_; refine l_nil ?_) | (refine c_region (id := 1) ?_; refine sq qm ?_; refine se ?_; refine ecp rfl rfl (fun w hC hm hL => by exact sover_c gs at_ ga ba ca ha bsa fra gb bb cb hb bsb frb room gd w (hL.sub (by (repeat (first | exact List.nil_sublist _ | exact List.Sublist.slnil | apply List.Sublist.cons_cons | exact List.Sublist.refl _ | apply List.Sublist.cons))))) ?_; intro m' hm'; refine l_nil ?_) | (refine c_region (id := 3) ?_; refine sq qa ?_; refine l_nil ?_) | (refine c_region (id := 4) ?_; refine sq qm ?_; refine sq qls ?_; refine sq qm ?_; refine l_nil ?_) | refine n_then ?_ | refine c_block ?_ | refine c_skip ?_ | refine n_block ?_ | refine c_exit ?_ | refine n_then_exit ?_ | refine n_block_eq ?_ | refine n_block_ne rfl ?_ | refine c_ret ?_ | refine n_then_ret ?_ | refine n_block_ret ?_ | refine c_cond_t rfl ?_ | refine c_cond_f rfl ?_ | refine r_succ ?_ )
  refine add_nil 5 1 ?_
  refine c_loop (γ := Nat × Option Addr × Nat × Nat) (fun z => [(22, .int .i64 z.1), (20, .slice ap ps.length cp0), (21, .int .i64 ps.length), (8, .slice z.2.1 (packL (ps.take z.1)).length z.2.2.1), (2, .int .i64 (rm : Int))]) (fun z => z.2.2.2) (fun z => [.sl z.2.1 z.2.2.1 5 1 ((packL (ps.take z.1)).map (Value.int .u8))]) (fun z => z.1 ≤ ps.length ∧ OS [] w.heap.size z.2.1 z.2.2.1 (packL (ps.take z.1)).length ∧ w.heap.size ≤ z.2.2.2) (fun z => ps.length - z.1) ⟨0, none, 0, m'⟩ ⟨by simp, OS.nil _ _, by dsimp only; omega⟩ ⟨rfl, rfl, rfl, rfl, rfl, trivial⟩ rfl (by exact (by (repeat (first | exact List.nil_sublist _ | exact List.Sublist.slnil | apply List.Sublist.cons_cons | exact List.Sublist.refl _ | apply List.Sublist.cons)))) ?_
  rintro ⟨i, b, cap, mm⟩ ⟨hi, ho, hmm⟩
  dsimp only at hi ho hmm ⊢
  have hle := packL_le ps i
  by_cases h8 : i < ps.length
  · obtain ⟨p, hp⟩ : ∃ p, ps[i]? = some p := ⟨_, List.getElem?_eq_getElem h8⟩
    have hpk := hps p (List.mem_of_getElem? hp)
    have hp4 := hps4 p (List.mem_of_getElem? hp)
    have hpl := hpk.l
    have hlb := leb2 (n := p.xs.length) (by omega)
    have hyl : (leb p.xs.length ++ p.xs).length = (leb p.xs.length).length + p.xs.length := List.length_append
    obtain ⟨g0, o0, rfl, hOl⟩ := hO.get h8
    have hn9 : nth (ps.map CPrt.v) i = some (.slice p.a p.len p.cap) := nth_map hp
    repeat (first | refine c_seq ?_ | (refine c_region (id := 5) ?_; refine sq (by first | exact dlsst | exact dlssf) ?_; refine l_nil ?_) | (refine c_region (id := 6) ?_; refine sq (by exact qis (o' := o0 + i) (ho := by omega)) ?_; refine sq (by exact ql (hr := Rd.oldn hOl hn9 (by simp))) ?_; refine sq qa ?_; refine l_nil ?_) | (refine c_region (id := 7) ?_; refine se ?_; refine ea ?_; refine l_nil ?_) | refine n_then ?_ | refine c_block ?_ | refine c_skip ?_ | refine n_block ?_ | refine c_exit ?_ | refine n_then_exit ?_ | refine n_block_eq ?_ | refine n_block_ne rfl ?_ | refine c_ret ?_ | refine n_then_ret ?_ | refine n_block_ret ?_ | refine c_cond_t rfl ?_ | refine c_cond_f rfl ?_ | refine r_succ ?_ )
    refine add_nil 5 1 ?_
    repeat (first | refine c_seq ?_ | (refine c_region (id := 8) ?_; refine sq qm ?_; refine se ?_; refine e_callX (OutL mm none 0 [] false) _ rfl rfl (by kernel_rfl) rfl (by (repeat (first | exact Sp.nil | (apply Sp.cons; focus (repeat (first | exact Rm.here | apply Rm.there)))))) (fun w hC hm hA hL hap => by have h9 := text_c mm none 0 [] false (by simp) (by simp) (OS.nil _ _) w hA p.a p.len p.cap p.xs hpl hpk.c hpk.r (by omega) (hpk.s.ch0 hC) (fun g o e hl hg => by have h5 := hpk.lt g o e (by omega); simp [feet, Chunk.foot] at hg; omega); rw [txS_ok (by omega)] at h9; exact h9) (by intro g hg; simp [feet, Chunk.foot] at hg; exact .inr (by omega)) (fun _ => rfl) ?_; intro z4 m4 hz4 hn4 hm4; obtain ⟨b4, cap4⟩ := z4; dsimp only at hz4 ⊢; refine l_nil ?_) | (refine c_region (id := 9) ?_; refine se ?_; refine ecl rfl rfl (fun w hC hm hL => by exact endok_c mm b4 cap4 (leb p.xs.length ++ p.xs) (by rw [hyl]; omega) w (hL.old (k := 2) (by (repeat (first | exact List.Mem.head _ | apply List.Mem.tail))) (by rfl)) (SlE.own hL (by (repeat (first | exact List.Mem.head _ | apply List.Mem.tail))) hz4)) ?_; intro z5 m5 hz5 hn5 hm5; obtain ⟨b5, cap5⟩ := z5; dsimp only at hz5 ⊢; refine sq qm ?_; refine sq qe ?_; refine sq qe ?_; refine sq qa ?_; refine sq qa ?_; refine l_nil ?_) | (refine c_region (id := 10) ?_; refine sq qm ?_; refine sq (by first | exact dneqt | exact dneqf) ?_; refine l_nil ?_) | (refine c_region (id := 12) ?_; refine sq qm ?_; refine sq qm ?_; refine se ?_; refine e_appE (Value.int .u8) (packL (ps.take i)) (leb p.xs.length ++ p.xs) rfl rfl rfl (by (repeat (first | exact Rm.here | apply Rm.there))) (Vw.own (bk_ob hz5.ret) (by (repeat (first | exact List.Mem.head _ | apply List.Mem.tail)))) rfl rfl ho (allOne_u8L _) (by omega) (by omega) ?_; intro b2 cap2 m2 ho2 hm2; refine sq qa ?_; refine l_nil ?_) | (refine c_region (id := 13) ?_; refine sq qadd64 ?_; refine sq qm ?_; refine l_nil ?_) | refine n_then ?_ | refine c_block ?_ | refine c_skip ?_ | refine n_block ?_ | refine c_exit ?_ | refine n_then_exit ?_ | refine n_block_eq ?_ | refine n_block_ne rfl ?_ | refine c_ret ?_ | refine n_then_ret ?_ | refine n_block_ret ?_ | refine c_cond_t rfl ?_ | refine c_cond_f rfl ?_ | refine r_succ ?_ )
    refine c_round ⟨i + 1, b2, cap2, m2⟩ ⟨by dsimp only; omega, by rw [packL_succ hp, List.length_append]; exact ho2, by dsimp only; omega⟩ (by dsimp only; omega) ⟨rfl, rfl, rfl, by rw [packL_succ hp]; simp only [List.length_append]; rfl, rfl, trivial⟩ (by rfl) (by dsimp only; rw [packL_succ hp]; exact (by (repeat (first | exact List.nil_sublist _ | exact List.Sublist.slnil | apply List.Sublist.cons_cons | exact List.Sublist.refl _ | apply List.Sublist.cons))))
  · obtain rfl : i = ps.length := by omega
    rw [List.take_length] at hle ho ⊢
    repeat (first | refine c_seq ?_ | (refine c_region (id := 5) ?_; refine sq (by first | exact dlsst | exact dlssf) ?_; refine l_nil ?_) | (refine c_region (id := 14) ?_; refine sq qm ?_; refine sq qls ?_; refine sq qm ?_; refine sq (by first | exact dgtrt | exact dgtrf) ?_; refine l_nil ?_) | (refine c_region (id := 16) ?_; refine sq qm ?_; refine sq qa ?_; refine sq qa ?_; refine l_nil ?_) | refine n_then ?_ | refine c_block ?_ | refine c_skip ?_ | refine n_block ?_ | refine c_exit ?_ | refine n_then_exit ?_ | refine n_block_eq ?_ | refine n_block_ne rfl ?_ | refine c_ret ?_ | refine n_then_ret ?_ | refine n_block_ret ?_ | refine c_cond_t rfl ?_ | refine c_cond_f rfl ?_ | refine r_succ ?_ )
    (first | apply r_ret (b, cap) | apply r_end (b, cap)); exact rfl; exact rfl; exact (.tmp rfl (.tmp rfl .nil)); exact rfl; exact (by exact (by (repeat (first | exact List.nil_sublist _ | exact List.Sublist.slnil | apply List.Sublist.cons_cons | exact List.Sublist.refl _ | apply List.Sublist.cons)))); exact (new_sl ho.newc new_nil); exact ho.ret
end Go.Proofs.YtgmghkakiocmjaaGreatDoor
namespace Go.Proofs.YtgmghkakiocmjaaGreatDoor
open Go Go.RowKit
set_option linter.unusedVariables false
set_option linter.unusedSimpArgs false
theorem CPrt.Ok.chn {w w' : World} {p : CPrt} {X : List Nat} (h : p.Ok w) (hC : Ch X w w') (hx : ∀ g o, p.a = some ⟨g, o, none⟩ → 0 < p.xs.length → g ∉ X) : p.Ok w' := ⟨h.s.chn hC hx, h.l, h.c, h.r⟩
abbrev StD (gs : Nat) (at_ : Bool) (ga : Nat) (ba : Option Addr) (ca : Nat) (ha : Hd) (bsa : List Int) (fra : Nat) (gb : Nat) (bb : Option Addr) (cb : Nat) (hb : Hd) (bsb : List Int) (frb room gd gw gm : Nat) (D : Dk) : List Chunk :=
  .blk gs (.cells (stC at_ ga gb) 56 (0, 0)) :: .sl ba ca 5 1 ((bsa).map (Value.int .u8)) :: LgB ga gd fra room ha (.slice ba bsa.length ca) false :: .sl bb cb 5 1 ((bsb).map (Value.int .u8)) :: LgB gb gd frb room hb (.slice bb bsb.length cb) false :: DskL gd gw gm D
set_option maxRecDepth 100000 in
set_option maxHeartbeats 4000000 in
theorem add_y (gs : Nat) (at_ : Bool) (ga : Nat) (ba : Option Addr) (ca : Nat) (ha : Hd) (bsa : List Int) (fra gb : Nat) (bb : Option Addr) (cb : Nat) (hb : Hd) (bsb : List Int) (frb room gd : Nat) (gw gm : Nat) (D : Dk) (nd : Nat) (hok : D.OK nd) (hbka : BK ba ca bsa.length) (hla : bsa.length ≤ room) (hroom : room ≤ 60000) (hfit : fra + 2 + (room + 63) / 64 ≤ nd) (hse : 0 ≤ ha.ser ∧ ha.ser < 4611686018427387904) (ap : Option Addr) (cp0 : Nat) (ps : List CPrt) (hps4 : ∀ p ∈ ps, p.len ≤ 4096) (hfp : bsa.length + (packL ps).length ≤ room) (hpn : ps.length ≤ 1000000) (h1 : Hd) (pp : Nat) (hpp : (pp : Int) = h1.ser % 2) (hs1 : h1.ser = ha.ser + 1) (hc1 : h1.cnt = (bsa ++ packL ps).length) (hnt1 : h1.nt = ha.nt) (r : Bool × Dk) (hr : r = appR fra pp h1 bsa (packL ps) D) (hrt : r.1 = true) (w : World) (hS : Has (StD gs at_ ga ba ca ha bsa fra gb bb cb hb bsb frb room gd gw gm D) w) (hps : ∀ p ∈ ps, p.Ok w) (hO : SlE CPrt.v w ap ps) (hpx : ∀ p ∈ ps, ∀ g o, p.a = some ⟨g, o, none⟩ → 0 < p.xs.length → g ∉ (feet (LogL ga gd gw gm fra room ha ba ca bsa D))) (hox : ∀ g o, ap = some ⟨g, o, none⟩ → 0 < ps.length → g ∉ (feet (LogL ga gd gw gm fra room ha ba ca bsa D))) (hne : 0 < ps.length) :
    CA Tryz.prog 10 [.pointer (some ⟨gs, 0, none⟩), .slice ap ps.length cp0] w (Ret (fun _ : Option Addr × Nat => .int .i64 0) (feet (LogL ga gd gw gm fra room ha ba ca bsa D)) (fun z => LogL ga gd gw gm fra room h1 z.1 z.2 (bsa ++ packL ps) r.2) (fun z => BK z.1 z.2 (bsa ++ packL ps).length) w) := by
  refine enter (L := (StD gs at_ ga ba ca ha bsa fra gb bb cb hb bsb frb room gd gw gm D)) (X := (feet (LogL ga gd gw gm fra room ha ba ca bsa D))) Tryz.func10 rfl Tryz.ntmps10 rfl rfl hS ?_
  repeat (first | refine c_seq ?_ | (refine c_region (id := 0) ?_; refine sq qa ?_; refine l_nil ?_) | (refine c_region (id := 1) ?_; refine sq qm ?_; refine sq qm ?_; refine sq qm ?_; refine se ?_; refine ecp rfl rfl (fun w hC hm hL => by have h9 := sroom_c gs at_ ga ba ca ha bsa fra gb bb cb hb bsb frb room gd ⟨hla, by omega⟩ w (hL.sub (by (repeat (first | exact List.nil_sublist _ | exact List.Sublist.slnil | apply List.Sublist.cons_cons | exact List.Sublist.refl _ | apply List.Sublist.cons)))); rw [show ((room : Int) - bsa.length) = ((room - bsa.length : Nat) : Int) by omega] at h9; exact h9) ?_; intro m' hm'; refine se ?_; refine ecl rfl rfl (fun w hC hm hL => by exact packed_ok gs at_ ga ba ca ha bsa fra gb bb cb hb bsb frb room gd ap cp0 ps (room - bsa.length) (by omega) hps4 (by omega) (by omega) w (hL.sub (by (repeat (first | exact List.nil_sublist _ | exact List.Sublist.slnil | apply List.Sublist.cons_cons | exact List.Sublist.refl _ | apply List.Sublist.cons)))) (fun p hp => (hps p hp).chn hC (fun g o e hl => hpx p hp g o e hl)) (hO.chn hC hox)) ?_; intro z5 m5 hz5 hn5 hm5; obtain ⟨b5, cap5⟩ := z5; dsimp only at hz5 ⊢; refine sq qm ?_; refine sq qe ?_; refine sq qe ?_; refine sq qa ?_; refine sq qa ?_; refine l_nil ?_) | (refine c_region (id := 2) ?_; refine sq qm ?_; refine sq (by exact q_neq_nn (hx := rfl)) ?_; refine l_nil ?_) | (refine c_region (id := 4) ?_; refine sq qm ?_; refine sq qls ?_; refine sq (by first | exact deqlt | exact deqlf) ?_; refine sq qm ?_; (first | refine sk ?_ | refine skv ?_ | (refine st_want rfl rfl ?_; refine sq qm ?_)); (first | refine sk ?_ | refine skv ?_ | (refine st_want rfl rfl ?_; refine se ?_; refine ecp rfl rfl (fun w hC hm hL => by exact slog_c at_ gs ga gb w (hL.old (k := 3) (by (repeat (first | exact List.Mem.head _ | apply List.Mem.tail))) (by cases at_ <;> rfl))) ?_; intro m' hm')); (first | refine sk ?_ | refine skv ?_ | (refine st_want rfl rfl ?_; refine se ?_; fail)); (first | refine sk ?_ | refine skv ?_ | (refine st_want rfl rfl ?_; refine sq (by first | exact dlsst | exact dlssf) ?_)); refine sq (by first | exact qpt | exact qpf) ?_; refine l_nil ?_) | refine n_then ?_ | refine c_block ?_ | refine c_skip ?_ | refine n_block ?_ | refine c_exit ?_ | refine n_then_exit ?_ | refine n_block_eq ?_ | refine n_block_ne rfl ?_ | refine c_ret ?_ | refine n_then_ret ?_ | refine n_block_ret ?_ | refine c_cond_t rfl ?_ | refine c_cond_f rfl ?_ | refine r_succ ?_ )
  repeat (first | refine c_seq ?_ | (refine c_region (id := 6) ?_; refine sq qm ?_; refine se ?_; refine ecp rfl rfl (fun w hC hm hL => by exact slog_c at_ gs ga gb w (hL.old (k := 3) (by (repeat (first | exact List.Mem.head _ | apply List.Mem.tail))) (by cases at_ <;> rfl))) ?_; intro m' hm'; refine sq qm ?_; refine sq qm ?_; refine se ?_; refine ecp rfl rfl (fun w hC hm hL => by exact slog_c at_ gs ga gb w (hL.old (k := 3) (by (repeat (first | exact List.Mem.head _ | apply List.Mem.tail))) (by cases at_ <;> rfl))) ?_; intro m' hm'; refine se ?_; refine ecp rfl rfl (fun w hC hm hL => by exact note_c ga gd fra room ha _ false w (hL.sub (by (repeat (first | exact List.nil_sublist _ | exact List.Sublist.slnil | apply List.Sublist.cons_cons | exact List.Sublist.refl _ | apply List.Sublist.cons))))) ?_; intro m' hm'; refine se ?_; refine e_callX (LogL ga gd gw gm fra room ha ba ca bsa D) _ rfl rfl (by kernel_rfl) rfl (by (repeat (first | exact Sp.nil | (apply Sp.cons; focus (repeat (first | exact Rm.here | apply Rm.there)))))) (fun w hC hm hA hL hap => by have h9 := append_y ga gd gw gm fra room ha h1 ba ca bsa D nd hok (os_log hbka.1 hbka.2.1 hbka.2.2) hla (by omega) hfit ⟨hse.1, hse.2⟩ pp hpp hs1 b5 (packL ps).length cap5 (packL ps) hc1 rfl (by omega) (SlE.own hL (by (repeat (first | exact List.Mem.head _ | apply List.Mem.tail))) (os_bk hz5)) (fun g o e _ => apart_sl (by (repeat (first | exact List.Mem.head _ | apply List.Mem.tail))) hap g o e) r hr hrt hA; rw [hnt1] at h9; exact h9) (fun g hg => .inl hg) (fun _ => rfl) ?_; intro z6 m6 hz6 hn6 hm6; obtain ⟨b6, cap6⟩ := z6; dsimp only at hz6 ⊢; refine se ?_; refine ecp rfl rfl (fun w hC hm hL => by exact failed_ok _ w) ?_; intro m' hm'; refine se ?_; refine ecp rfl rfl (fun w hC hm hL => by exact told_ok w) ?_; intro m' hm'; refine sq qa ?_; refine l_nil ?_) | refine n_then ?_ | refine c_block ?_ | refine c_skip ?_ | refine n_block ?_ | refine c_exit ?_ | refine n_then_exit ?_ | refine n_block_eq ?_ | refine n_block_ne rfl ?_ | refine c_ret ?_ | refine n_then_ret ?_ | refine n_block_ret ?_ | refine c_cond_t rfl ?_ | refine c_cond_f rfl ?_ | refine r_succ ?_ )
  refine fgs (A := LogL ga gd gw gm fra room h1 b6 cap6 (bsa ++ packL ps) r.2) (by (repeat (first | exact Sp.nil | (apply Sp.cons; focus (repeat (first | exact Rm.here | apply Rm.there)))))) ?_
  (first | apply r_ret (b6, cap6) | apply r_end (b6, cap6)); exact rfl; exact rfl; exact (.tmp rfl .nil); exact rfl; exact (List.Sublist.refl _); exact hn6; exact hz6
set_option maxRecDepth 100000 in
set_option maxHeartbeats 4000000 in
theorem add_0 (gs : Nat) (at_ : Bool) (ga : Nat) (ba : Option Addr) (ca : Nat) (ha : Hd) (bsa : List Int) (fra gb : Nat) (bb : Option Addr) (cb : Nat) (hb : Hd) (bsb : List Int) (frb room gd : Nat) (gw gm : Nat) (D : Dk) (hla : bsa.length ≤ room) (hroom : room ≤ 60000) (hse : 0 ≤ ha.ser ∧ ha.ser < 4611686018427387904) (ap : Option Addr) (cp0 : Nat) (w : World) (hS : Has (StD gs at_ ga ba ca ha bsa fra gb bb cb hb bsb frb room gd gw gm D) w) :
    CA Tryz.prog 10 [.pointer (some ⟨gs, 0, none⟩), .slice ap 0 cp0] w (RV (.int .i64 0) w) := by
  refine enter (L := (StD gs at_ ga ba ca ha bsa fra gb bb cb hb bsb frb room gd gw gm D)) (X := []) Tryz.func10 rfl Tryz.ntmps10 rfl rfl hS ?_
  repeat (first | refine c_seq ?_ | (refine c_region (id := 0) ?_; refine sq qa ?_; refine l_nil ?_) | (refine c_region (id := 1) ?_; refine sq qm ?_; refine sq qm ?_; refine sq qm ?_; refine se ?_; refine ecp rfl rfl (fun w hC hm hL => by have h9 := sroom_c gs at_ ga ba ca ha bsa fra gb bb cb hb bsb frb room gd ⟨hla, by omega⟩ w (hL.sub (by (repeat (first | exact List.nil_sublist _ | exact List.Sublist.slnil | apply List.Sublist.cons_cons | exact List.Sublist.refl _ | apply List.Sublist.cons)))); rw [show ((room : Int) - bsa.length) = ((room - bsa.length : Nat) : Int) by omega] at h9; exact h9) ?_; intro m' hm'; refine se ?_; refine ecl rfl rfl (fun w hC hm hL => by exact packed_ok gs at_ ga ba ca ha bsa fra gb bb cb hb bsb frb room gd ap cp0 [] (room - bsa.length) (by omega) (by simp) (by simp [packL]) (by simp) w (hL.sub (by (repeat (first | exact List.nil_sublist _ | exact List.Sublist.slnil | apply List.Sublist.cons_cons | exact List.Sublist.refl _ | apply List.Sublist.cons)))) (by simp) SlE.nil) ?_; intro z5 m5 hz5 hn5 hm5; obtain ⟨b5, cap5⟩ := z5; dsimp only at hz5 ⊢; refine sq qm ?_; refine sq qe ?_; refine sq qe ?_; refine sq qa ?_; refine sq qa ?_; refine l_nil ?_) | (refine c_region (id := 2) ?_; refine sq qm ?_; refine sq (by exact q_neq_nn (hx := rfl)) ?_; refine l_nil ?_) | (refine c_region (id := 4) ?_; refine sq qm ?_; refine sq qls ?_; refine sq (by first | exact deqlt | exact deqlf) ?_; refine sq qm ?_; (first | refine sk ?_ | refine skv ?_ | (refine st_want rfl rfl ?_; refine sq qm ?_)); (first | refine sk ?_ | refine skv ?_ | (refine st_want rfl rfl ?_; refine se ?_; refine ecp rfl rfl (fun w hC hm hL => by exact slog_c at_ gs ga gb w (hL.old (k := 3) (by (repeat (first | exact List.Mem.head _ | apply List.Mem.tail))) (by cases at_ <;> rfl))) ?_; intro m' hm')); (first | refine sk ?_ | refine skv ?_ | (refine st_want rfl rfl ?_; refine se ?_; refine ecp rfl rfl (fun w hC hm hL => by exact serial_c ga gd fra room ha _ false w (hL.sub (by (repeat (first | exact List.nil_sublist _ | exact List.Sublist.slnil | apply List.Sublist.cons_cons | exact List.Sublist.refl _ | apply List.Sublist.cons))))) ?_; intro m' hm')); (first | refine sk ?_ | refine skv ?_ | (refine st_want rfl rfl ?_; refine sq (by first | exact dlsst | exact dlssf) ?_)); refine sq (by first | exact qpt | exact qpf) ?_; refine l_nil ?_) | (refine c_region (id := 5) ?_; refine sq qa ?_; refine l_nil ?_) | refine n_then ?_ | refine c_block ?_ | refine c_skip ?_ | refine n_block ?_ | refine c_exit ?_ | refine n_then_exit ?_ | refine n_block_eq ?_ | refine n_block_ne rfl ?_ | refine c_ret ?_ | refine n_then_ret ?_ | refine n_block_ret ?_ | refine c_cond_t rfl ?_ | refine c_cond_f rfl ?_ | refine r_succ ?_ )
  (first | apply r_ret () | apply r_end ()); exact rfl; exact rfl; exact (.tmp rfl .nil); exact rfl; exact (List.nil_sublist _); exact new_nil; exact trivial
set_option maxRecDepth 100000 in
set_option maxHeartbeats 4000000 in
theorem rsame_eq (ps qs : List CPrt) (ap aq : Option Addr) (cp cq : Nat) (he : ps.map (·.xs) = qs.map (·.xs)) (hn : ps.length ≤ 1000000) (w : World) (hps : ∀ p ∈ ps, p.Ok w) (hqs : ∀ p ∈ qs, p.Ok w) (hO : SlE CPrt.v w ap ps) (hQ : SlE CPrt.v w aq qs) :
    CA Tryz.prog 14 [.slice ap ps.length cp, .slice aq qs.length cq] w (RV (.bool true) w) := by
  have hl : ps.length = qs.length := by have := congrArg List.length he; simpa using this
  refine enter (L := []) (X := []) Tryz.func14 rfl Tryz.ntmps14 rfl rfl (Has.nil _) ?_
  repeat (first | refine c_seq ?_ | (refine c_region (id := 0) ?_; refine sq qa ?_; refine l_nil ?_) | (refine c_region (id := 1) ?_; refine sq qm ?_; refine sq qls ?_; refine sq qm ?_; refine sq qls ?_; refine sq (by first | exact dneqt | exact dneqf) ?_; refine l_nil ?_) | (refine c_region (id := 3) ?_; refine sq qa ?_; refine l_nil ?_) | refine n_then ?_ | refine c_block ?_ | refine c_skip ?_ | refine n_block ?_ | refine c_exit ?_ | refine n_then_exit ?_ | refine n_block_eq ?_ | refine n_block_ne rfl ?_ | refine c_ret ?_ | refine n_then_ret ?_ | refine n_block_ret ?_ | refine c_cond_t rfl ?_ | refine c_cond_f rfl ?_ | refine r_succ ?_ )
  refine c_loop (γ := Nat) (fun i => [(5, .int .i64 i), (0, .slice ap ps.length cp), (1, .slice aq qs.length cq)]) (fun _ => w.heap.size) (fun _ => []) (fun i => i ≤ ps.length) (fun i => ps.length - i) 0 (by simp) ⟨rfl, rfl, rfl, trivial⟩ rfl (List.nil_sublist _) ?_
  intro i hi
  by_cases h8 : i < ps.length
  · obtain ⟨p, hp⟩ : ∃ p, ps[i]? = some p := ⟨_, List.getElem?_eq_getElem h8⟩
    obtain ⟨q, hq⟩ : ∃ q, qs[i]? = some q := ⟨_, List.getElem?_eq_getElem (by omega)⟩
    have hpk := hps p (List.mem_of_getElem? hp)
    have hqk := hqs q (List.mem_of_getElem? hq)
    have hxy : p.xs = q.xs := by
      have h9 : (ps.map (·.xs))[i]? = (qs.map (·.xs))[i]? := by rw [he]
      simpa [hp, hq] using h9
    obtain ⟨g1, o1, rfl, hOl⟩ := hO.get h8
    obtain ⟨g2, o2, rfl, hOr⟩ := hQ.get (i := i) (by omega)
    have hn1 : nth (ps.map CPrt.v) i = some (.slice p.a p.len p.cap) := nth_map hp
    have hn2 : nth (qs.map CPrt.v) i = some (.slice q.a q.len q.cap) := nth_map hq
    repeat (first | refine c_seq ?_ | (refine c_region (id := 4) ?_; refine sq qm ?_; refine sq qm ?_; refine sq qls ?_; refine sq (by first | exact dlsst | exact dlssf) ?_; refine l_nil ?_) | (refine c_region (id := 5) ?_; refine sq qm ?_; refine sq qadd64 ?_; refine sq qa ?_; refine l_nil ?_) | (refine x_region (id := 6) none [(0, .n), (1, .n), (2, .n), (3, .q), (4, .q), (5, .n), (6, .n), (7, .n), (8, .q), (9, .q), (10, .n)] _ mixed (by kernel_rfl) (List.Sublist.refl _) ?_; refine xn rfl qm ?_; refine xn rfl qm ?_; refine xn rfl (by exact qis (o' := o1 + i) (ho := by omega)) ?_; refine xq rfl (by exact ql (hr := Rd.oldn hOl hn1 (by simp))) ?_; refine xq rfl (by exact qcb rfl hpk.s.vw hpk.l) ?_; refine xn rfl qm ?_; refine xn rfl qm ?_; refine xn rfl (by exact qis (o' := o2 + i) (ho := by omega)) ?_; refine xq rfl (by exact ql (hr := Rd.oldn hOr hn2 (by simp))) ?_; refine xq rfl (by exact qcb rfl hqk.s.vw hqk.l) ?_; refine xn rfl (by exact Qt.cast (v' := .bool false) (congrArg Value.bool (by rw [hxy, beq_self_eq_true]; rfl)) (q_neq_str rfl rfl)) ?_; refine x_nil ?_) | refine n_then ?_ | refine c_block ?_ | refine c_skip ?_ | refine n_block ?_ | refine c_exit ?_ | refine n_then_exit ?_ | refine n_block_eq ?_ | refine n_block_ne rfl ?_ | refine c_ret ?_ | refine n_then_ret ?_ | refine n_block_ret ?_ | refine c_cond_t rfl ?_ | refine c_cond_f rfl ?_ | refine r_succ ?_ )
    refine c_round (i + 1) (by omega) (by omega) ⟨rfl, rfl, rfl, trivial⟩ rfl (List.nil_sublist _)
  · obtain rfl : i = ps.length := by omega
    repeat (first | refine c_seq ?_ | (refine c_region (id := 4) ?_; refine sq qm ?_; refine sq qm ?_; refine sq qls ?_; refine sq (by first | exact dlsst | exact dlssf) ?_; refine l_nil ?_) | (refine c_region (id := 8) ?_; refine sq qa ?_; refine l_nil ?_) | refine n_then ?_ | refine c_block ?_ | refine c_skip ?_ | refine n_block ?_ | refine c_exit ?_ | refine n_then_exit ?_ | refine n_block_eq ?_ | refine n_block_ne rfl ?_ | refine c_ret ?_ | refine n_then_ret ?_ | refine n_block_ret ?_ | refine c_cond_t rfl ?_ | refine c_cond_f rfl ?_ | refine r_succ ?_ )
    (first | apply r_ret () | apply r_end ()); exact rfl; exact rfl; exact (.tmp rfl .nil); exact rfl; exact (List.nil_sublist _); exact new_nil; exact trivial
end Go.Proofs.YtgmghkakiocmjaaGreatDoor
namespace Go.Proofs.YtgmghkakiocmjaaGreatDoor
open Go Go.RowKit
set_option linter.unusedVariables false
set_option linter.unusedSimpArgs false
theorem hpkP (m : Nat) : packL [(⟨some ⟨m, 0, none⟩, 1, 1, [120]⟩ : CPrt)] = [1, 120] := by
  show leb 1 ++ [120] ++ [] = _
  rw [leb_small (by decide)]; rfl
theorem rec1 : recs (([] : List Int) ++ [1, 120]) = [[120]] := by
  have h := recs_ok (ys := [1, 120]) (x := 1) (n := 1) (by rfl) (by decide) (by decide) (by decide)
  rw [List.nil_append, h]
  rfl
set_option maxRecDepth 100000 in
set_option maxHeartbeats 4000000 in
theorem sawk_c (w : World) : CA Tryz.prog 5 [] w (RV (.bool true) w) := by
  obtain ⟨h1, hh1⟩ : ∃ h1 : Hd, h1 = ⟨1, (([] : List Int) ++ [1, 120]).length, hdZ.nt⟩ := ⟨_, rfl⟩
  have hK1 : HdK h1 := by
    rw [hh1]
    exact ⟨⟨by decide, by decide⟩, ⟨by decide, by decide⟩, RB.zero, fun j hj => rfl⟩
  obtain ⟨r, hr⟩ : ∃ r, r = appR 0 1 h1 [] [1, 120] (Dk.new 6) := ⟨_, rfl⟩
  have hrt : r.1 = true := by
    rw [hr]
    exact ((LogAt.new 6 0 3).append (by decide) (by omega) ⟨rfl, rfl⟩ (RG.new 6) hK1 (by rw [hh1]; rfl) (by decide) (by rw [hh1]) (by simp) (by simp) 1 (by rw [hh1]; rfl)).1
  have hrc := rec1
  refine enter (L := []) (X := []) Tryz.func5 rfl Tryz.ntmps5 rfl rfl (Has.nil _) ?_
  repeat (first | refine c_seq ?_ | (refine c_region (id := 0) ?_; refine sq qa ?_; refine l_nil ?_) | (refine c_region (id := 1) ?_; refine se ?_; refine ecl rfl rfl (fun w hC hm hL => by exact newd_c 6 (by omega) w) ?_; intro z1 m1 _ hn1 hm1; obtain ⟨gd1, gw1, gm1⟩ := z1; have hg1 : w.heap.size ≤ gd1 ∧ w.heap.size ≤ gw1 ∧ w.heap.size ≤ gm1 := ⟨(by have h9 := hn1 gd1 (by simp [feetD]); omega), (by have h9 := hn1 gw1 (by simp [feetD]); omega), (by have h9 := hn1 gm1 (by simp [feetD]); omega)⟩; clear hn1; dsimp only; refine chg (L' := DskL gd1 gw1 gm1 (Dk.new 6)) (by rfl) ?_; refine se ?_; refine ecl rfl rfl (fun w hC hm hL => by exact sopen_0 gd1 gw1 gm1 (Dk.new 6) rfl (by decide) (RG.new 6) (by decide) 3 (by decide) hdZ hdZ [] [] (LogAt.new 6 0 3) (LogAt.new 6 3 3) hdZ_K hdZ_K (Int.lt_irrefl _) w (hL.sub (by (repeat (first | exact List.nil_sublist _ | exact List.Sublist.slnil | apply List.Sublist.cons_cons | exact List.Sublist.refl _ | apply List.Sublist.cons))))) ?_; intro z2 m2 hz2 hn2 hm2; obtain ⟨gs2, ⟨ga2, ba2, ca2⟩, ⟨gb2, bb2, cb2⟩⟩ := z2; have hqs2 : w.heap.size ≤ gs2 := (by have := hn2 gs2 (by simp [feet, Chunk.foot]); omega); have hqa2 : w.heap.size ≤ ga2 := (by have := hn2 ga2 (by simp [feet, Chunk.foot]); omega); have hqb2 : w.heap.size ≤ gb2 := (by have := hn2 gb2 (by simp [feet, Chunk.foot]); omega); have hba2 : ∀ g, ba2 = some ⟨g, 0, none⟩ → w.heap.size ≤ g := (fun g e => by have := hn2 g (by simp [feet, Chunk.foot, e]); omega); have hbb2 : ∀ g, bb2 = some ⟨g, 0, none⟩ → w.heap.size ≤ g := (fun g e => by have := hn2 g (by simp [feet, Chunk.foot, e]); omega); dsimp only at hz2 ⊢; refine sq qm ?_; refine sq qe ?_; refine sq qe ?_; refine sq qa ?_; refine sq qa ?_; refine l_nil ?_) | refine n_then ?_ | refine c_block ?_ | refine c_skip ?_ | refine n_block ?_ | refine c_exit ?_ | refine n_then_exit ?_ | refine n_block_eq ?_ | refine n_block_ne rfl ?_ | refine c_ret ?_ | refine n_then_ret ?_ | refine n_block_ret ?_ | refine c_cond_t rfl ?_ | refine c_cond_f rfl ?_ | refine r_succ ?_ )
  have hpk0 : ∀ m, packL [(⟨some ⟨m, 0, none⟩, 1, 1, [120]⟩ : CPrt)] = [1, 120] := hpkP
  repeat (first | refine c_seq ?_ | (refine c_region (id := 2) ?_; refine sq qm ?_; refine sq (by first | exact deqlt | exact deqlf) ?_; refine sq qm ?_; (first | refine sk ?_ | refine skv ?_ | (refine st_want rfl rfl ?_; refine sq qm ?_)); (first | refine sk ?_ | refine skv ?_ | (refine st_want rfl rfl ?_; refine sq (by exact q_neq_pnil rfl rfl (by kernel_rfl)) ?_)); refine sq (by first | exact qpt | exact qpf) ?_; refine sq qm ?_; (first | refine sk ?_ | refine skv ?_ | (refine st_want rfl rfl ?_; refine sq qm ?_)); (first | refine sk ?_ | refine skv ?_ | (refine st_want rfl rfl ?_; refine se ?_; refine ecp rfl rfl (fun w hC hm hL => by have h9 := sroom_c gs2 false ga2 ba2 ca2 hdZ [] 0 gb2 bb2 cb2 hdZ [] 3 ((3 - 2) * 64) gd1 (by simp) w (Has.sel hL (by (repeat (first | exact Sel.nil | (refine Sel.cons (by (repeat (first | exact Rm.here | apply Rm.there))) ?_))))); rw [List.length_nil] at h9; exact h9) ?_; intro m' hm')); (first | refine sk ?_ | refine skv ?_ | (refine st_want rfl rfl ?_; refine sq (by first | exact deqlt | exact deqlf) ?_)); refine sq (by first | exact qpt | exact qpf) ?_; refine sq qm ?_; (first | refine sk ?_ | refine skv ?_ | (refine st_want rfl rfl ?_; refine sq qm ?_)); (first | refine sk ?_ | refine skv ?_ | (refine st_want rfl rfl ?_; refine se ?_; refine ebs ?_)); (first | refine sk ?_ | refine skv ?_ | (refine st_want rfl rfl ?_; refine se ?_; refine e_conv_const rfl rfl (by (repeat (first | exact Pl.here | apply Pl.there))) (by first | (left; simp; done) | (right; omega)) ?_)); (first | refine sk ?_ | refine skv ?_ | (refine st_want rfl rfl ?_; refine se ?_; refine ebs ?_)); (first | refine sk ?_ | refine skv ?_ | (refine st_want rfl rfl ?_; refine se ?_; refine e_callX (LogL ga2 gd1 gw1 gm1 0 ((3 - 2) * 64) hdZ ba2 ca2 [] (Dk.new 6)) _ rfl rfl (by kernel_rfl) rfl (by (repeat (first | exact Sp.nil | (apply Sp.cons; focus (repeat (first | exact Rm.here | apply Rm.there)))))) (fun w hC hm hA hL hap => by have h9 := add_y gs2 false ga2 ba2 ca2 hdZ [] 0 gb2 bb2 cb2 hdZ [] 3 ((3 - 2) * 64) gd1 gw1 gm1 (Dk.new 6) 6 (Dk.OK.new 6 (by decide)) hz2.1 (by simp) (by omega) (by omega) ⟨by decide, by decide⟩ (some ⟨m' + 1, 0, none⟩) 1 [(⟨some ⟨m', 0, none⟩, 1, 1, [120]⟩ : CPrt)] (by simp) (by rw [hpk0]; simp) (by simp) h1 1 (by rw [hh1]; rfl) (by rw [hh1]; rfl) (by rw [hh1, hpk0]) (by rw [hh1]) r (by rw [hpk0]; exact hr) hrt w (Has.sel (has_app hL hA hap) (by (repeat (first | exact Sel.nil | (refine Sel.cons (by (repeat (first | exact Rm.here | apply Rm.there))) ?_))))) (fun p hp => by simp only [List.mem_singleton] at hp; subst hp; exact ⟨SlE.blk hL (by (repeat (first | exact List.Mem.head _ | apply List.Mem.tail))) 0 1 (by rfl), rfl, Nat.le_refl _, by simp⟩) (SlE.blk (enc := CPrt.v) hL (by (repeat (first | exact List.Mem.head _ | apply List.Mem.tail))) 0 1 (by rfl)) (fun p hp g o e _ => by simp only [List.mem_singleton] at hp; subst hp; exact apart_blk (by (repeat (first | exact List.Mem.head _ | apply List.Mem.tail))) hap g o e) (fun g o e _ => apart_blk (by (repeat (first | exact List.Mem.head _ | apply List.Mem.tail))) hap g o e) (by simp); rw [hpk0] at h9; exact h9) (by intro g hg; simp only [feet, List.flatMap_cons, List.mem_append] at hg; rcases hg with h9 | h9; exact bk_new hz2.1 hba2 g h9; (simp [Chunk.foot] at h9; exact .inr (by omega))) (fun _ => rfl) ?_; intro z6 m6 hz6 hn6 hm6; obtain ⟨b6, cap6⟩ := z6; dsimp only at hz6 ⊢)); (first | refine sk ?_ | refine skv ?_ | (refine st_want rfl rfl ?_; refine sq (by first | exact deqlt | exact deqlf) ?_)); refine sq (by first | exact qpt | exact qpf) ?_; refine sq qm ?_; (first | refine sk ?_ | refine skv ?_ | (refine st_want rfl rfl ?_; refine sq qm ?_)); (first | refine sk ?_ | refine skv ?_ | (refine st_want rfl rfl ?_; refine se ?_; refine ecl rfl rfl (fun w hC hm hL => by exact records_c gs2 false ga2 b6 cap6 h1 ([] ++ [1, 120]) 0 gb2 bb2 cb2 hdZ [] 3 ((3 - 2) * 64) gd1 (by omega) (by simp) (by simp) hz6 w (Has.sel hL (by (repeat (first | exact Sel.nil | (refine Sel.cons (by (repeat (first | exact Rm.here | apply Rm.there))) ?_)))))) ?_; intro z7 m7 hz7 hn7 hm7; obtain ⟨b7, cap7, ps7⟩ := z7; dsimp only at hz7 ⊢; have hl7 : ps7.length = 1 := (by have h8 := congrArg List.length hz7.2.1; rw [hrc] at h8; simpa using h8))); (first | refine sk ?_ | refine skv ?_ | (refine st_want rfl rfl ?_; refine sq qls ?_)); (first | refine sk ?_ | refine skv ?_ | (refine st_want rfl rfl ?_; refine sq (by first | exact deqlt | exact deqlf) ?_)); refine sq (by first | exact qpt | exact qpf) ?_; refine sq qa ?_; refine l_nil ?_) | refine n_then ?_ | refine c_block ?_ | refine c_skip ?_ | refine n_block ?_ | refine c_exit ?_ | refine n_then_exit ?_ | refine n_block_eq ?_ | refine n_block_ne rfl ?_ | refine c_ret ?_ | refine n_then_ret ?_ | refine n_block_ret ?_ | refine c_cond_t rfl ?_ | refine c_cond_f rfl ?_ | refine r_succ ?_ )
  (first | apply r_ret () | apply r_end ()); exact rfl; exact rfl; exact (.tmp rfl .nil); exact rfl; exact (List.nil_sublist _); exact new_nil; exact trivial
end Go.Proofs.YtgmghkakiocmjaaGreatDoor
namespace Go.Proofs.YtgmghkakiocmjaaGreatDoor
open Go Go.RowKit Go.Extern.Stop Go.Stop Go.Extern
set_option linter.unusedVariables false
theorem is_typeOf (v : Value) (w : World) : (Extern.ReflectliteType.typeOf #[.iface 164 v]).run Tryz.prog w = .ok (.iface 127 (.agg #[.pointer (some ⟨5, 164, none⟩)])) w := by kernel_rfl
theorem is_comparable (w : World) : ((Extern.ReflectliteType.method fun t => do Go.Extern.Rtype.noPackHeld "Comparable" t; (fun a => Value.bool a.comparable) <$> typeInfo t) #[.agg #[.pointer (some ⟨5, 164, none⟩)]]).run Tryz.prog w = .ok (.bool true) w := by kernel_rfl
theorem is_mComparable (v : Value) (w : World) : (Go.method 301 127 v "Comparable").run Tryz.prog w = .ok (123, v) w := by kernel_rfl
theorem is_comp : (Tryz.prog.info? 164).map (·.comparable) = some true := by kernel_rfl
theorem is_size : (Tryz.prog.info? 189).map (·.size) = some 1 := by kernel_rfl
theorem is_noIsE (v : Value) (xT : TypeId) (w : World) : (Instr.typeAssert (.iface 164 v) xT 129 true).run Tryz.prog w = .ok (.tuple #[.nilIface, .bool false]) w := run_typeAssert_lacksB Tryz.underlying129 (by kernel_rfl) (by kernel_rfl) v xT w
theorem is_noUnwrapE (v : Value) (xT : TypeId) (w : World) : (Instr.typeAssert (.iface 164 v) xT 132 true).run Tryz.prog w = .ok (.tuple #[.nilIface, .bool false]) w := run_typeAssert_lacksB Tryz.underlying132 (by kernel_rfl) (by kernel_rfl) v xT w
theorem is_noUnwrapsE (v : Value) (xT : TypeId) (w : World) : (Instr.typeAssert (.iface 164 v) xT 134 true).run Tryz.prog w = .ok (.tuple #[.nilIface, .bool false]) w := run_typeAssert_lacksB Tryz.underlying134 (by kernel_rfl) (by kernel_rfl) v xT w
theorem is_noIsW (v : Value) (xT : TypeId) (w : World) : (Instr.typeAssert (.iface 89 v) xT 129 true).run Tryz.prog w = .ok (.tuple #[.nilIface, .bool false]) w := run_typeAssert_lacksB Tryz.underlying129 (by kernel_rfl) (by kernel_rfl) v xT w
theorem is_hasUnwrapW (v : Value) (xT : TypeId) (w : World) : (Instr.typeAssert (.iface 89 v) xT 132 true).run Tryz.prog w = .ok (.tuple #[.iface 89 v, .bool true]) w := run_typeAssert_hasB Tryz.underlying132 (by kernel_rfl) v xT w
theorem is_mUnwrap (v : Value) (w : World) : (Go.method 301 89 v "Unwrap").run Tryz.prog w = .ok (118, v) w := by kernel_rfl
set_option maxRecDepth 100000 in
set_option maxHeartbeats 4000000 in
theorem is_wrap_same (pb po : Nat) (b : Addr) (w : World) (h1 : w.cell? ⟨pb, po + 1, none⟩ = some (.iface 164 (.pointer (some b)))) :
    Calls Tryz.prog 46 #[.iface 89 (.pointer (some ⟨pb, po, none⟩)), .iface 164 (.pointer (some b))] w fun e w' => e = .returned (.bool true) ∧ w' = w := by
  obtain ⟨i, hi, hcmp⟩ := Option.map_eq_some_iff.1 is_comp
  obtain ⟨j, hj, hjs⟩ := Option.map_eq_some_iff.1 is_size
  have h8 := @run_callFunc_extern Tryz.prog 65 _ Extern.ReflectliteType.typeOf Tryz.func65 (by kernel_rfl) (by kernel_rfl) (by kernel_rfl) (by kernel_rfl)
  have h32 := @run_callFunc_extern Tryz.prog 123 _ (Extern.ReflectliteType.method fun t => do Go.Extern.Rtype.noPackHeld "Comparable" t; pure (.bool (← typeInfo t).comparable)) Tryz.func123 (by kernel_rfl) (by kernel_rfl) (by kernel_rfl) (by kernel_rfl)
  have tT := is_typeOf
  have cT := is_comparable
  have mR := is_mComparable
  have nE := is_noIsE
  have uE := is_noUnwrapE
  have vE := is_noUnwrapsE
  have nW := is_noIsW
  have uW := is_hasUnwrapW
  have mU := is_mUnwrap
  have heq := run_eql_iface_ptr_same (P := Tryz.prog) w b Tryz.underlying60 Tryz.underlying164 hi hcmp hj
  have hty := run_eql_iface_types (P := Tryz.prog) 89 164 (.pointer (some ⟨pb, po, none⟩)) (.pointer (some b)) Tryz.underlying60 (by decide) w
  go_enter Tryz.func46, Tryz.ntmps46
  go_wp2
  refine wp_loop_rounds 2 ?_
  rw [rounds_succ]
  go_wp2
  rw [rounds_succ]
  go_wp2
  go_ret
  exact ⟨rfl, rfl⟩
set_option maxRecDepth 100000 in
set_option maxHeartbeats 4000000 in
theorem is_wrap_other (pb po : Nat) (b a : Addr) (ca cb : Array Value) (ta tb : TypeId) (w : World) (h1 : w.cell? ⟨pb, po + 1, none⟩ = some (.iface 164 (.pointer (some a)))) (hne : a ≠ b) (ha : w.heap[a.block]? = some (.cells ca ta (0, 0))) (hb : w.heap[b.block]? = some (.cells cb tb (0, 0))) :
    Calls Tryz.prog 46 #[.iface 89 (.pointer (some ⟨pb, po, none⟩)), .iface 164 (.pointer (some b))] w fun e w' => e = .returned (.bool false) ∧ w' = w := by
  obtain ⟨i, hi, hcmp⟩ := Option.map_eq_some_iff.1 is_comp
  obtain ⟨j, hj, hjs⟩ := Option.map_eq_some_iff.1 is_size
  have h8 := @run_callFunc_extern Tryz.prog 65 _ Extern.ReflectliteType.typeOf Tryz.func65 (by kernel_rfl) (by kernel_rfl) (by kernel_rfl) (by kernel_rfl)
  have h32 := @run_callFunc_extern Tryz.prog 123 _ (Extern.ReflectliteType.method fun t => do Go.Extern.Rtype.noPackHeld "Comparable" t; pure (.bool (← typeInfo t).comparable)) Tryz.func123 (by kernel_rfl) (by kernel_rfl) (by kernel_rfl) (by kernel_rfl)
  have tT := is_typeOf
  have cT := is_comparable
  have mR := is_mComparable
  have nE := is_noIsE
  have uE := is_noUnwrapE
  have vE := is_noUnwrapsE
  have nW := is_noIsW
  have uW := is_hasUnwrapW
  have mU := is_mUnwrap
  have heq := run_eql_iface_ptr_other (P := Tryz.prog) w Tryz.underlying60 Tryz.underlying164 hi hcmp hj (by rw [hjs]; decide) hne ha hb
  have hty := run_eql_iface_types (P := Tryz.prog) 89 164 (.pointer (some ⟨pb, po, none⟩)) (.pointer (some b)) Tryz.underlying60 (by decide) w
  go_enter Tryz.func46, Tryz.ntmps46
  go_wp2
  refine wp_loop_rounds 2 ?_
  rw [rounds_succ]
  go_wp2
  rw [rounds_succ]
  go_wp2
  go_ret
  exact ⟨rfl, rfl⟩
end Go.Proofs.YtgmghkakiocmjaaGreatDoor
namespace Go.Proofs.YtgmghkakiocmjaaGreatDoor
open Go Go.RowKit
set_option linter.unusedVariables false
set_option linter.unusedSimpArgs false
section
variable {P : Program} {T : List (Nat × Value)} {X : List Nat} {w0 : World} {L : List Chunk} {x y : Operand} {dst : Option Tmp} {ty t ty2 tx : TypeId} {v : Value} {pos : String} {af : Array Edge} {gu : Option (Nat × Bool)}
theorem q_eql_in {ms : Array (String × TypeId)} [hu : UT P t (.interface ms)] (hx : ev T x = some (.iface tx v) := by rfl) : Qt P X w0 ⟨dst, .binOp .eql t x (.const .nilIface) ty2, ty, pos, af, gu⟩ T L (.bool false) :=
  q_bin_val hx (show ev T (.const .nilIface) = some .nilIface from rfl) (fun w => by simp [eqGuard]) fun w => by rw [show binOp .eql t (.iface tx v) .nilIface = (do pure (.bool (← Op.equal t (.iface tx v) .nilIface))) from rfl]; simp only [Sem.run_bind, eqIface_in hu.h, Result.andThen_ok, Sem.run_pure]
end
structure EK (A : Nat → Addr) (w : World) : Prop where
  g : ∀ i, i < 5 → Old w i 0 [.iface 164 (.pointer (some (A i)))]
  b : ∀ i, i < 5 → ∃ c t, w.heap[(A i).block]? = some (.cells c t (0, 0))
  ne : ∀ i j, i < 5 → j < 5 → i ≠ j → A i ≠ A j
theorem EK.lt {A : Nat → Addr} {w : World} (h : EK A w) : 4 < w.heap.size ∧ ∀ i, i < 5 → (A i).block < w.heap.size := by
  refine ⟨World.block_lt_of_cell? w _ ((h.g 4 (by omega)).cell 0 _ rfl), fun i hi => ?_⟩
  obtain ⟨c, t, e⟩ := h.b i hi
  rcases Nat.lt_or_ge (A i).block w.heap.size with h1 | h1
  · exact h1
  · rw [Array.getElem?_eq_none h1] at e; cases e
theorem EK.chx {A : Nat → Addr} {w w' : World} {X : List Nat} (h : EK A w) (hC : Ch X w w') (hx : ∀ g ∈ X, 4 < g ∧ ∀ i, i < 5 → (A i).block ≠ g) : EK A w' :=
  ⟨fun i hi => (h.g i hi).ch hC (fun hm => by have := (hx i hm).1; omega), fun i hi => by
    obtain ⟨c, t, e⟩ := h.b i hi
    exact ⟨c, t, by rw [hC.block _ (h.lt.2 i hi) (fun hm => (hx _ hm).2 i hi rfl)]; exact e⟩, h.ne⟩
theorem EK.ch {A : Nat → Addr} {w w' : World} (h : EK A w) (hC : Ch [] w w') : EK A w' := h.chx hC (by simp)
theorem EK.chn {A : Nat → Addr} {w w' : World} {X : List Nat} {m : Nat} (h : EK A w) (hC : Ch X w w') (hx : ∀ g ∈ X, m ≤ g) (hm : 4 < m ∧ ∀ i, i < 5 → (A i).block < m) : EK A w' :=
  h.chx hC fun g hg => ⟨by have := hx g hg; omega, fun i hi e => by have := hx g hg; have := hm.2 i hi; omega⟩
set_option maxRecDepth 100000 in
set_option maxHeartbeats 4000000 in
theorem told_errLong (A : Nat → Addr) (d : ByteArray) (fb : Nat) (w : World) (hE : EK A w) (hF : Old w fb 0 [.string d, .iface 164 (.pointer (some (A 4)))]) : CA Tryz.prog 23 [.iface 89 (.pointer (some ⟨fb, 0, none⟩))] w (RV (.int .i64 3) w) := by
  refine enter (L := []) (X := []) Tryz.func23 rfl Tryz.ntmps23 rfl rfl (Has.nil _) ?_
  repeat (first | refine c_seq ?_ | (refine c_region (id := 0) ?_; refine sq qa ?_; refine l_nil ?_) | (refine c_region (id := 1) ?_; refine sq qm ?_; refine sq q_eql_in ?_; refine sq qa ?_; refine l_nil ?_) | (refine c_region (id := 2) ?_; refine sq qa ?_; refine l_nil ?_) | (refine c_region (id := 3) ?_; refine sq qm ?_; refine sq (by exact ql (hr := Rd.oldn (j := 0) (hE.g 0 (by omega)) (by rfl) (by simp))) ?_; refine se ?_; refine ecp rfl rfl (fun w hC hm hL => by obtain ⟨c1, t1, e1⟩ := (hE.ch hC).b 4 (by omega); obtain ⟨c2, t2, e2⟩ := (hE.ch hC).b 0 (by omega); exact ret_same (is_wrap_other fb 0 (A 0) (A 4) c1 c2 t1 t2 w ((hF.ch hC (by simp)).cell 1 _ rfl) (hE.ne 4 0 (by omega) (by omega) (by omega)) e1 e2)) ?_; intro m' hm'; refine sq qa ?_; refine l_nil ?_) | (refine c_region (id := 4) ?_; refine sq qa ?_; refine l_nil ?_) | (refine c_region (id := 5) ?_; refine sq qm ?_; refine sq (by exact ql (hr := Rd.oldn (j := 0) (hE.g 4 (by omega)) (by rfl) (by simp))) ?_; refine se ?_; refine ecp rfl rfl (fun w hC hm hL => by exact ret_same (is_wrap_same fb 0 (A 4) w ((hF.ch hC (by simp)).cell 1 _ rfl))) ?_; intro m' hm'; refine sq qa ?_; refine l_nil ?_) | (refine c_region (id := 6) ?_; refine sq qa ?_; refine l_nil ?_) | (refine c_region (id := 7) ?_; refine sq qm ?_; refine sq (by exact ql (hr := Rd.oldn (j := 0) (hE.g 1 (by omega)) (by rfl) (by simp))) ?_; refine se ?_; refine ecp rfl rfl (fun w hC hm hL => by obtain ⟨c1, t1, e1⟩ := (hE.ch hC).b 4 (by omega); obtain ⟨c2, t2, e2⟩ := (hE.ch hC).b 1 (by omega); exact ret_same (is_wrap_other fb 0 (A 1) (A 4) c1 c2 t1 t2 w ((hF.ch hC (by simp)).cell 1 _ rfl) (hE.ne 4 1 (by omega) (by omega) (by omega)) e1 e2)) ?_; intro m' hm'; refine sq qa ?_; refine l_nil ?_) | (refine c_region (id := 8) ?_; refine sq qa ?_; refine l_nil ?_) | (refine c_region (id := 9) ?_; refine sq qm ?_; refine sq (by exact ql (hr := Rd.oldn (j := 0) (hE.g 2 (by omega)) (by rfl) (by simp))) ?_; refine se ?_; refine ecp rfl rfl (fun w hC hm hL => by obtain ⟨c1, t1, e1⟩ := (hE.ch hC).b 4 (by omega); obtain ⟨c2, t2, e2⟩ := (hE.ch hC).b 2 (by omega); exact ret_same (is_wrap_other fb 0 (A 2) (A 4) c1 c2 t1 t2 w ((hF.ch hC (by simp)).cell 1 _ rfl) (hE.ne 4 2 (by omega) (by omega) (by omega)) e1 e2)) ?_; intro m' hm'; refine sq qa ?_; refine l_nil ?_) | (refine c_region (id := 10) ?_; refine sq qa ?_; refine l_nil ?_) | (refine c_region (id := 11) ?_; refine sq qa ?_; refine l_nil ?_) | refine n_then ?_ | refine c_block ?_ | refine c_skip ?_ | refine n_block ?_ | refine c_exit ?_ | refine n_then_exit ?_ | refine n_block_eq ?_ | refine n_block_ne rfl ?_ | refine c_ret ?_ | refine n_then_ret ?_ | refine n_block_ret ?_ | refine c_cond_t rfl ?_ | refine c_cond_f rfl ?_ | refine r_succ ?_ )
  (first | apply r_ret () | apply r_end ()); exact rfl; exact rfl; exact (.tmp rfl .nil); exact rfl; exact (List.nil_sublist _); exact new_nil; exact trivial
set_option maxRecDepth 100000 in
set_option maxHeartbeats 4000000 in
theorem told_errFull (A : Nat → Addr) (d : ByteArray) (fb : Nat) (w : World) (hE : EK A w) (hF : Old w fb 0 [.string d, .iface 164 (.pointer (some (A 1)))]) : CA Tryz.prog 23 [.iface 89 (.pointer (some ⟨fb, 0, none⟩))] w (RV (.int .i64 4) w) := by
  refine enter (L := []) (X := []) Tryz.func23 rfl Tryz.ntmps23 rfl rfl (Has.nil _) ?_
  repeat (first | refine c_seq ?_ | (refine c_region (id := 0) ?_; refine sq qa ?_; refine l_nil ?_) | (refine c_region (id := 1) ?_; refine sq qm ?_; refine sq q_eql_in ?_; refine sq qa ?_; refine l_nil ?_) | (refine c_region (id := 2) ?_; refine sq qa ?_; refine l_nil ?_) | (refine c_region (id := 3) ?_; refine sq qm ?_; refine sq (by exact ql (hr := Rd.oldn (j := 0) (hE.g 0 (by omega)) (by rfl) (by simp))) ?_; refine se ?_; refine ecp rfl rfl (fun w hC hm hL => by obtain ⟨c1, t1, e1⟩ := (hE.ch hC).b 1 (by omega); obtain ⟨c2, t2, e2⟩ := (hE.ch hC).b 0 (by omega); exact ret_same (is_wrap_other fb 0 (A 0) (A 1) c1 c2 t1 t2 w ((hF.ch hC (by simp)).cell 1 _ rfl) (hE.ne 1 0 (by omega) (by omega) (by omega)) e1 e2)) ?_; intro m' hm'; refine sq qa ?_; refine l_nil ?_) | (refine c_region (id := 4) ?_; refine sq qa ?_; refine l_nil ?_) | (refine c_region (id := 5) ?_; refine sq qm ?_; refine sq (by exact ql (hr := Rd.oldn (j := 0) (hE.g 4 (by omega)) (by rfl) (by simp))) ?_; refine se ?_; refine ecp rfl rfl (fun w hC hm hL => by obtain ⟨c1, t1, e1⟩ := (hE.ch hC).b 1 (by omega); obtain ⟨c2, t2, e2⟩ := (hE.ch hC).b 4 (by omega); exact ret_same (is_wrap_other fb 0 (A 4) (A 1) c1 c2 t1 t2 w ((hF.ch hC (by simp)).cell 1 _ rfl) (hE.ne 1 4 (by omega) (by omega) (by omega)) e1 e2)) ?_; intro m' hm'; refine sq qa ?_; refine l_nil ?_) | (refine c_region (id := 6) ?_; refine sq qa ?_; refine l_nil ?_) | (refine c_region (id := 7) ?_; refine sq qm ?_; refine sq (by exact ql (hr := Rd.oldn (j := 0) (hE.g 1 (by omega)) (by rfl) (by simp))) ?_; refine se ?_; refine ecp rfl rfl (fun w hC hm hL => by exact ret_same (is_wrap_same fb 0 (A 1) w ((hF.ch hC (by simp)).cell 1 _ rfl))) ?_; intro m' hm'; refine sq qa ?_; refine l_nil ?_) | (refine c_region (id := 8) ?_; refine sq qa ?_; refine l_nil ?_) | (refine c_region (id := 9) ?_; refine sq qm ?_; refine sq (by exact ql (hr := Rd.oldn (j := 0) (hE.g 2 (by omega)) (by rfl) (by simp))) ?_; refine se ?_; refine ecp rfl rfl (fun w hC hm hL => by obtain ⟨c1, t1, e1⟩ := (hE.ch hC).b 1 (by omega); obtain ⟨c2, t2, e2⟩ := (hE.ch hC).b 2 (by omega); exact ret_same (is_wrap_other fb 0 (A 2) (A 1) c1 c2 t1 t2 w ((hF.ch hC (by simp)).cell 1 _ rfl) (hE.ne 1 2 (by omega) (by omega) (by omega)) e1 e2)) ?_; intro m' hm'; refine sq qa ?_; refine l_nil ?_) | (refine c_region (id := 10) ?_; refine sq qa ?_; refine l_nil ?_) | (refine c_region (id := 11) ?_; refine sq qa ?_; refine l_nil ?_) | refine n_then ?_ | refine c_block ?_ | refine c_skip ?_ | refine n_block ?_ | refine c_exit ?_ | refine n_then_exit ?_ | refine n_block_eq ?_ | refine n_block_ne rfl ?_ | refine c_ret ?_ | refine n_then_ret ?_ | refine n_block_ret ?_ | refine c_cond_t rfl ?_ | refine c_cond_f rfl ?_ | refine r_succ ?_ )
  (first | apply r_ret () | apply r_end ()); exact rfl; exact rfl; exact (.tmp rfl .nil); exact rfl; exact (List.nil_sublist _); exact new_nil; exact trivial
set_option maxRecDepth 100000 in
set_option maxHeartbeats 4000000 in
theorem failed_errLost (A : Nat → Addr) (d : ByteArray) (w : World) (hE : EK A w) : CA Tryz.prog 22 [.string d, .int .i64 5] w (Ret (fun z : Nat => .iface 89 (.pointer (some ⟨z, 0, none⟩))) [] (fun z => [.blk z (.cells #[.string d, .iface 164 (.pointer (some (A 3)))] 91 (0, 0))]) (fun _ => True) w) := by
  obtain ⟨m0, hm0⟩ : ∃ m, m = w.heap.size := ⟨_, rfl⟩
  refine enter (L := []) (X := []) Tryz.func22 rfl Tryz.ntmps22 rfl rfl (Has.nil _) ?_
  rw [← hm0]
  repeat (first | refine c_seq ?_ | (refine c_region (id := 0) ?_; refine sq qa ?_; refine l_nil ?_) | (refine c_region (id := 1) ?_; refine sq qm ?_; refine l_nil ?_) | (refine c_region (id := 2) ?_; refine sq (by first | exact deqlt | exact deqlf) ?_; refine sq qa ?_; refine l_nil ?_) | (refine c_region (id := 3) ?_; refine sq qa ?_; refine l_nil ?_) | (refine c_region (id := 4) ?_; refine sq (by first | exact deqlt | exact deqlf) ?_; refine sq qa ?_; refine l_nil ?_) | (refine c_region (id := 6) ?_; refine sq (by first | exact deqlt | exact deqlf) ?_; refine sq qa ?_; refine l_nil ?_) | (refine c_region (id := 8) ?_; refine sq (by first | exact deqlt | exact deqlf) ?_; refine sq qa ?_; refine l_nil ?_) | (refine c_region (id := 10) ?_; refine sq qm ?_; refine sq (by exact ql (hr := Rd.oldn (j := 0) (hE.g 3 (by omega)) (by rfl) (by simp))) ?_; refine sq qbs ?_; refine se ?_; refine eb ?_; refine sq q_mkI ?_; refine sq qa ?_; refine l_nil ?_) | refine n_then ?_ | refine c_block ?_ | refine c_skip ?_ | refine n_block ?_ | refine c_exit ?_ | refine n_then_exit ?_ | refine n_block_eq ?_ | refine n_block_ne rfl ?_ | refine c_ret ?_ | refine n_then_ret ?_ | refine n_block_ret ?_ | refine c_cond_t rfl ?_ | refine c_cond_f rfl ?_ | refine r_succ ?_ )
  (first | apply r_ret m0 | apply r_end m0); exact rfl; exact rfl; exact (.tmp rfl .nil); exact rfl; exact (by exact (by (repeat (first | exact List.nil_sublist _ | exact List.Sublist.slnil | apply List.Sublist.cons_cons | exact List.Sublist.refl _ | apply List.Sublist.cons)))); exact (new_blk (.inr (by omega)) new_nil); exact trivial
set_option maxRecDepth 100000 in
set_option maxHeartbeats 4000000 in
theorem told_errLost (A : Nat → Addr) (d : ByteArray) (fb : Nat) (w : World) (hE : EK A w) (hF : Old w fb 0 [.string d, .iface 164 (.pointer (some (A 3)))]) : CA Tryz.prog 23 [.iface 89 (.pointer (some ⟨fb, 0, none⟩))] w (RV (.int .i64 5) w) := by
  refine enter (L := []) (X := []) Tryz.func23 rfl Tryz.ntmps23 rfl rfl (Has.nil _) ?_
  repeat (first | refine c_seq ?_ | (refine c_region (id := 0) ?_; refine sq qa ?_; refine l_nil ?_) | (refine c_region (id := 1) ?_; refine sq qm ?_; refine sq q_eql_in ?_; refine sq qa ?_; refine l_nil ?_) | (refine c_region (id := 2) ?_; refine sq qa ?_; refine l_nil ?_) | (refine c_region (id := 3) ?_; refine sq qm ?_; refine sq (by exact ql (hr := Rd.oldn (j := 0) (hE.g 0 (by omega)) (by rfl) (by simp))) ?_; refine se ?_; refine ecp rfl rfl (fun w hC hm hL => by obtain ⟨c1, t1, e1⟩ := (hE.ch hC).b 3 (by omega); obtain ⟨c2, t2, e2⟩ := (hE.ch hC).b 0 (by omega); exact ret_same (is_wrap_other fb 0 (A 0) (A 3) c1 c2 t1 t2 w ((hF.ch hC (by simp)).cell 1 _ rfl) (hE.ne 3 0 (by omega) (by omega) (by omega)) e1 e2)) ?_; intro m' hm'; refine sq qa ?_; refine l_nil ?_) | (refine c_region (id := 4) ?_; refine sq qa ?_; refine l_nil ?_) | (refine c_region (id := 5) ?_; refine sq qm ?_; refine sq (by exact ql (hr := Rd.oldn (j := 0) (hE.g 4 (by omega)) (by rfl) (by simp))) ?_; refine se ?_; refine ecp rfl rfl (fun w hC hm hL => by obtain ⟨c1, t1, e1⟩ := (hE.ch hC).b 3 (by omega); obtain ⟨c2, t2, e2⟩ := (hE.ch hC).b 4 (by omega); exact ret_same (is_wrap_other fb 0 (A 4) (A 3) c1 c2 t1 t2 w ((hF.ch hC (by simp)).cell 1 _ rfl) (hE.ne 3 4 (by omega) (by omega) (by omega)) e1 e2)) ?_; intro m' hm'; refine sq qa ?_; refine l_nil ?_) | (refine c_region (id := 6) ?_; refine sq qa ?_; refine l_nil ?_) | (refine c_region (id := 7) ?_; refine sq qm ?_; refine sq (by exact ql (hr := Rd.oldn (j := 0) (hE.g 1 (by omega)) (by rfl) (by simp))) ?_; refine se ?_; refine ecp rfl rfl (fun w hC hm hL => by obtain ⟨c1, t1, e1⟩ := (hE.ch hC).b 3 (by omega); obtain ⟨c2, t2, e2⟩ := (hE.ch hC).b 1 (by omega); exact ret_same (is_wrap_other fb 0 (A 1) (A 3) c1 c2 t1 t2 w ((hF.ch hC (by simp)).cell 1 _ rfl) (hE.ne 3 1 (by omega) (by omega) (by omega)) e1 e2)) ?_; intro m' hm'; refine sq qa ?_; refine l_nil ?_) | (refine c_region (id := 8) ?_; refine sq qa ?_; refine l_nil ?_) | (refine c_region (id := 9) ?_; refine sq qm ?_; refine sq (by exact ql (hr := Rd.oldn (j := 0) (hE.g 2 (by omega)) (by rfl) (by simp))) ?_; refine se ?_; refine ecp rfl rfl (fun w hC hm hL => by obtain ⟨c1, t1, e1⟩ := (hE.ch hC).b 3 (by omega); obtain ⟨c2, t2, e2⟩ := (hE.ch hC).b 2 (by omega); exact ret_same (is_wrap_other fb 0 (A 2) (A 3) c1 c2 t1 t2 w ((hF.ch hC (by simp)).cell 1 _ rfl) (hE.ne 3 2 (by omega) (by omega) (by omega)) e1 e2)) ?_; intro m' hm'; refine sq qa ?_; refine l_nil ?_) | (refine c_region (id := 10) ?_; refine sq qa ?_; refine l_nil ?_) | (refine c_region (id := 11) ?_; refine sq qa ?_; refine l_nil ?_) | refine n_then ?_ | refine c_block ?_ | refine c_skip ?_ | refine n_block ?_ | refine c_exit ?_ | refine n_then_exit ?_ | refine n_block_eq ?_ | refine n_block_ne rfl ?_ | refine c_ret ?_ | refine n_then_ret ?_ | refine n_block_ret ?_ | refine c_cond_t rfl ?_ | refine c_cond_f rfl ?_ | refine r_succ ?_ )
  (first | apply r_ret () | apply r_end ()); exact rfl; exact rfl; exact (.tmp rfl .nil); exact rfl; exact (List.nil_sublist _); exact new_nil; exact trivial
theorem star_e : "*" ++ "errors.errorString" = "*errors.errorString" := by decide
theorem row_e (u : TypeId) (h : Tryz.prog.typeName? 3 u = some "*errors.errorString") : u = 164 :=
  typeName_ptr_named (nm := "errors.errorString") (by rw [star_e]; kernel_rfl) (by kernel_rfl) (by decide) u (by rw [star_e]; exact h)
theorem old_var {w : World} {n : String} {g : Nat} {v : Value} (hg : Tryz.prog.globalNamed n = some g) (hv : w.var? Tryz.prog n = some #[v]) : Old w g 0 [v] :=
  ⟨fun j x hj => by
    match j, hj with
    | 0, hj =>
      obtain rfl : v = x := by simpa [nth] using hj
      rw [World.var?_cell hg hv]; rfl
    | j + 1, hj => simp [nth] at hj⟩
set_option maxRecDepth 100000 in
theorem ek_laid {w : World} (h0 : laidMetH Tryz.prog [("jalousie/store.errArg", Rows.laid_jalousie_store_errArg), ("jalousie/store.errLong", Rows.laid_jalousie_store_errLong), ("jalousie/store.errFull", Rows.laid_jalousie_store_errFull), ("jalousie/store.errLost", Rows.laid_jalousie_store_errLost), ("jalousie/store.errSpent", Rows.laid_jalousie_store_errSpent)] w) : ∃ A, EK A w := by
  rw [MakeChecks.laidMetH_plain _ _ _ (by kernel_rfl)] at h0
  have h1 := h0.tail
  have h2 := h1.tail
  have h3 := h2.tail
  obtain ⟨a0, b0, s0, r0, c0, d0, t0, u0, hv0, hw0, hc0, hs0, _, hd0, hr0, _, _, hb0, hx0⟩ := laid_sentinels2 h0 (show Tryz.prog.globalNamed "jalousie/store.errArg" = some 0 by kernel_rfl) (show (Tryz.prog.globals[0]?).map (·.type) = some 60 by kernel_rfl) (show Tryz.prog.globalNamed "jalousie/store.errLong" = some 4 by kernel_rfl) (show (Tryz.prog.globals[4]?).map (·.type) = some 60 by kernel_rfl) Tryz.underlying60 row_e Tryz.underlying164 Tryz.underlying189 rfl rfl Tryz.underlying9 (by kernel_rfl) (by kernel_rfl)
  obtain ⟨a1, b1, s1, r1, c1, d1, t1, u1, hv1, hw1, hc1, hs1, _, hd1, hr1, _, _, hb1, hx1⟩ := laid_sentinels2 h1 (show Tryz.prog.globalNamed "jalousie/store.errLong" = some 4 by kernel_rfl) (show (Tryz.prog.globals[4]?).map (·.type) = some 60 by kernel_rfl) (show Tryz.prog.globalNamed "jalousie/store.errFull" = some 1 by kernel_rfl) (show (Tryz.prog.globals[1]?).map (·.type) = some 60 by kernel_rfl) Tryz.underlying60 row_e Tryz.underlying164 Tryz.underlying189 rfl rfl Tryz.underlying9 (by kernel_rfl) (by kernel_rfl)
  obtain ⟨a2, b2, s2, r2, c2, d2, t2, u2, hv2, hw2, hc2, hs2, _, hd2, hr2, _, _, hb2, hx2⟩ := laid_sentinels2 h2 (show Tryz.prog.globalNamed "jalousie/store.errFull" = some 1 by kernel_rfl) (show (Tryz.prog.globals[1]?).map (·.type) = some 60 by kernel_rfl) (show Tryz.prog.globalNamed "jalousie/store.errLost" = some 3 by kernel_rfl) (show (Tryz.prog.globals[3]?).map (·.type) = some 60 by kernel_rfl) Tryz.underlying60 row_e Tryz.underlying164 Tryz.underlying189 rfl rfl Tryz.underlying9 (by kernel_rfl) (by kernel_rfl)
  obtain ⟨a3, b3, s3, r3, c3, d3, t3, u3, hv3, hw3, hc3, hs3, _, hd3, hr3, _, _, hb3, hx3⟩ := laid_sentinels2 h3 (show Tryz.prog.globalNamed "jalousie/store.errLost" = some 3 by kernel_rfl) (show (Tryz.prog.globals[3]?).map (·.type) = some 60 by kernel_rfl) (show Tryz.prog.globalNamed "jalousie/store.errSpent" = some 2 by kernel_rfl) (show (Tryz.prog.globals[2]?).map (·.type) = some 60 by kernel_rfl) Tryz.underlying60 row_e Tryz.underlying164 Tryz.underlying189 rfl rfl Tryz.underlying9 (by kernel_rfl) (by kernel_rfl)
  have g0 : ∀ i j : Nat, True := fun _ _ => trivial
  have n01 : a0 ≠ a1 := by
    intro e
    rw [e, hc1] at hc0
    have e2 := (hs1.symm.trans (congrArg (fun q : ByteArray => q.data.toList) (Value.string.inj (Option.some.inj hc0)))).trans hs0
    exact absurd e2 (by decide)
  have n02 : a0 ≠ a2 := by
    intro e
    rw [e, hc2] at hc0
    have e2 := (hs2.symm.trans (congrArg (fun q : ByteArray => q.data.toList) (Value.string.inj (Option.some.inj hc0)))).trans hs0
    exact absurd e2 (by decide)
  have n03 : a0 ≠ a3 := by
    intro e
    rw [e, hc3] at hc0
    have e2 := (hs3.symm.trans (congrArg (fun q : ByteArray => q.data.toList) (Value.string.inj (Option.some.inj hc0)))).trans hs0
    exact absurd e2 (by decide)
  have n04 : a0 ≠ b3 := by
    intro e
    rw [e, hd3] at hc0
    have e2 := (hr3.symm.trans (congrArg (fun q : ByteArray => q.data.toList) (Value.string.inj (Option.some.inj hc0)))).trans hs0
    exact absurd e2 (by decide)
  have n12 : a1 ≠ a2 := by
    intro e
    rw [e, hc2] at hc1
    have e2 := (hs2.symm.trans (congrArg (fun q : ByteArray => q.data.toList) (Value.string.inj (Option.some.inj hc1)))).trans hs1
    exact absurd e2 (by decide)
  have n13 : a1 ≠ a3 := by
    intro e
    rw [e, hc3] at hc1
    have e2 := (hs3.symm.trans (congrArg (fun q : ByteArray => q.data.toList) (Value.string.inj (Option.some.inj hc1)))).trans hs1
    exact absurd e2 (by decide)
  have n14 : a1 ≠ b3 := by
    intro e
    rw [e, hd3] at hc1
    have e2 := (hr3.symm.trans (congrArg (fun q : ByteArray => q.data.toList) (Value.string.inj (Option.some.inj hc1)))).trans hs1
    exact absurd e2 (by decide)
  have n23 : a2 ≠ a3 := by
    intro e
    rw [e, hc3] at hc2
    have e2 := (hs3.symm.trans (congrArg (fun q : ByteArray => q.data.toList) (Value.string.inj (Option.some.inj hc2)))).trans hs2
    exact absurd e2 (by decide)
  have n24 : a2 ≠ b3 := by
    intro e
    rw [e, hd3] at hc2
    have e2 := (hr3.symm.trans (congrArg (fun q : ByteArray => q.data.toList) (Value.string.inj (Option.some.inj hc2)))).trans hs2
    exact absurd e2 (by decide)
  have n34 : a3 ≠ b3 := by
    intro e
    rw [e, hd3] at hc3
    have e2 := (hr3.symm.trans (congrArg (fun q : ByteArray => q.data.toList) (Value.string.inj (Option.some.inj hc3)))).trans hs3
    exact absurd e2 (by decide)
  refine ⟨fun i => if i = 0 then a0 else if i = 1 then a2 else if i = 2 then b3 else if i = 3 then a3 else a1, fun i hi => ?_, fun i hi => ?_, fun i j hi hj hn => ?_⟩
  · rcases (show i = 0 ∨ i = 1 ∨ i = 2 ∨ i = 3 ∨ i = 4 by omega) with rfl | rfl | rfl | rfl | rfl
    · exact old_var (n := "jalousie/store.errArg") (by kernel_rfl) hv0
    · exact old_var (n := "jalousie/store.errFull") (by kernel_rfl) hv2
    · exact old_var (n := "jalousie/store.errSpent") (by kernel_rfl) hw3
    · exact old_var (n := "jalousie/store.errLost") (by kernel_rfl) hv3
    · exact old_var (n := "jalousie/store.errLong") (by kernel_rfl) hv1
  · rcases (show i = 0 ∨ i = 1 ∨ i = 2 ∨ i = 3 ∨ i = 4 by omega) with rfl | rfl | rfl | rfl | rfl
    · exact ⟨_, _, hb0⟩
    · exact ⟨_, _, hb2⟩
    · exact ⟨_, _, hx3⟩
    · exact ⟨_, _, hb3⟩
    · exact ⟨_, _, hb1⟩
  · rcases (show i = 0 ∨ i = 1 ∨ i = 2 ∨ i = 3 ∨ i = 4 by omega) with rfl | rfl | rfl | rfl | rfl <;> rcases (show j = 0 ∨ j = 1 ∨ j = 2 ∨ j = 3 ∨ j = 4 by omega) with rfl | rfl | rfl | rfl | rfl <;> first | exact absurd rfl hn | exact n01 | exact n01.symm | exact n02 | exact n02.symm | exact n03 | exact n03.symm | exact n04 | exact n04.symm | exact n12 | exact n12.symm | exact n13 | exact n13.symm | exact n14 | exact n14.symm | exact n23 | exact n23.symm | exact n24 | exact n24.symm | exact n34 | exact n34.symm
end Go.Proofs.YtgmghkakiocmjaaGreatDoor
namespace Go.Proofs.YtgmghkakiocmjaaGreatDoor
open Go Go.RowKit Go.ChangeShapes Go.WideShapes
set_option linter.unusedVariables false
structure Tx (w : World) (a : Option Addr) (len cap : Nat) (xs : List Int) : Prop where
  l : xs.length = len
  c : len ≤ cap
  m : cap ≤ 9223372036854775807
  s : SlE (Value.int .u8) w a xs
  r : ∀ x ∈ xs, 0 ≤ x ∧ x ≤ 255
theorem text_of {P : Program} {w : World} {S E : TypeId} (hS : P.underlying S = some (.slice E)) (hE : P.underlying E = some (.int .u8)) (hc : P.cellsOf E = 1) {v : Value} {r : Reach} {base : Nat} (hok : Value.okWide P w r base S v) (h : Reads P w S v.cells.toList) :
    ∃ a l c xs, v = .slice a l c ∧ Tx w a l c xs := by
  obtain ⟨a, l, c, rfl⟩ := okWide_slice hS hok
  have h' : Reads P w S [.slice a l c] := h
  obtain ⟨a', l', c', xs, e0, p1, p2, p3, p4, p5⟩ := h'.bytes hS hE hc
  simp at e0
  obtain ⟨rfl, rfl, rfl⟩ := e0
  exact ⟨a, l, c, xs, rfl, ⟨p1, p2, by simpa [maxLen] using p3, p4, p5⟩⟩
end Go.Proofs.YtgmghkakiocmjaaGreatDoor
namespace Go.Proofs.YtgmghkakiocmjaaGreatDoor
open Go Go.RowKit
set_option linter.unusedVariables false
set_option linter.unusedSimpArgs false
structure OpI where
  kd : Int
  x : Int
  i : Int
  a : Option Addr
  len : Nat
  cap : Nat
  xs : List Int
def OpI.enc (p : OpI) : List Value := [.int .u8 p.kd, .int .u8 p.x, .int .i64 p.i, .slice p.a p.len p.cap]
theorem OpI.enc_len (p : OpI) : p.enc.length = 4 := rfl
structure OpI.Ok (w : World) (p : OpI) : Prop where
  s : SlE (Value.int .u8) w p.a p.xs
  l : p.xs.length = p.len
  c : p.len ≤ p.cap
  m : p.len ≤ 9223372036854775807
  k : 0 ≤ p.kd ∧ p.kd ≤ 255
  xb : 0 ≤ p.x ∧ p.x ≤ 255
  ib : -9223372036854775808 ≤ p.i ∧ p.i ≤ 9223372036854775807
  r : ∀ x ∈ p.xs, 0 ≤ x ∧ x ≤ 255
theorem OpI.Ok.ch0 {w w' : World} {p : OpI} (h : p.Ok w) (hC : Ch [] w w') : p.Ok w' := ⟨h.s.ch0 hC, h.l, h.c, h.m, h.k, h.xb, h.ib, h.r⟩
theorem tornF_RB {a b : Nat → Int} {k : Int} (ha : RB a) (hb : RB b) : RB (tornF a b k) := ⟨fun j => by
  unfold tornF
  split <;> split
  · exact hb.h j
  · exact ha.h j
  · exact ha.h j
  · exact hb.h j⟩
theorem mFind_RB {M : List (ME (Nat → Int))} (h : ∀ e ∈ M, RB e.2.1) (i : Int) : RB ((mFind M i).getD fun _ => 0) := by
  unfold mFind
  cases e : M.find? fun e => e.1 == i with
  | none => exact RB.zero
  | some x => exact h x (List.mem_of_find?_eq_some e)
theorem crashK_RB {M : List (ME (Nat → Int))} (h : ∀ e ∈ M, RB e.2.1) (fate : List Int) : ∀ (is : List Int) (t : Nat) (secs : List (Nat → Int)), (∀ i : Nat, RB ((secs[i]?).getD fun _ => 0)) → ∀ i : Nat, RB (((crashK M fate t is secs)[i]?).getD fun _ => 0)
  | [], _, _, hs, i => hs i
  | k :: is, t, secs, hs, i => by
    rw [crashK]
    refine crashK_RB h fate is (t + 1) _ (fun j => ?_) i
    rw [List.getElem?_set]
    split
    · split
      · exact tornF_RB (mFind_RB h k) (hs _)
      · exact RB.zero
    · exact hs j
theorem RG.crash {D : Dk} (h : RG D) (fate : List Int) : RG (D.crash fate) := ⟨fun i => crashK_RB h.m fate _ _ _ h.s i, fun e he => by simp [Dk.crash] at he⟩
theorem crash_free (D : Dk) (fate : List Int) : (D.crash fate).Free := ⟨rfl, rfl⟩
theorem LogAt.head {D : Dk} {fr kn : Nat} {h h' : Hd} {bs bs' : List Int} (hl : LogAt D fr kn h bs) (hfr : fr + kn ≤ D.secs.length) (hk : 3 ≤ kn) (hf : D.Free) (hg : RG D) (hK : HdK h') (hs : h'.ser = h.ser + 1) (hs0 : 0 ≤ h.ser) (hc : h'.cnt = bs'.length) (hroom : bs'.length ≤ (kn - 2) * 64) (hb : rmL (fun i => D.at (fr + i)) bs'.length = bs') (p : Nat) (hp : (p : Int) = h'.ser % 2) :
    WF [(fr + p, secH h')] D (wrAll [(fr + p, secH h')] D) ∧ LogAt (wrAll [(fr + p, secH h')] D).2 fr kn h' bs' := by
  have hp2 : p < 2 := by omega
  have hw := wrAll_free [(fr + p, secH h')] D (fun e he => by simp only [List.mem_singleton] at he; subst he; exact ⟨by dsimp only; omega, secH_RB hK⟩) hf hg
  have hat := wrHead_at (fr + p) (secH h') D hf (by omega)
  refine ⟨hw, ⟨?_, hc, hroom, ?_⟩⟩
  · refine next_head hl.st hK hs hs0 (by rw [hc]; exact_mod_cast hroom) p hp ?_ ?_
    · rw [hat, if_pos rfl]
    · rw [hat, if_neg (by omega)]
  · refine rmL_ext fun q hq => ?_
    rw [hat, if_neg (by omega)]
    exact rmL_get hb q hq
end Go.Proofs.YtgmghkakiocmjaaGreatDoor
namespace Go.Proofs.YtgmghkakiocmjaaGreatDoor
open Go Go.RowKit
set_option linter.unusedVariables false
set_option linter.unusedSimpArgs false
theorem recs_len : ∀ (k : Nat) (ys : List Int), ys.length ≤ k → (recs ys).length ≤ ys.length
  | 0, ys, h => by
    obtain rfl : ys = [] := List.eq_nil_of_length_eq_zero (by omega)
    simp [recs, recF]
  | k + 1, ys, h => by
    by_cases hc : (numX ys).2 ≠ 0 ∧ (numX ys).1 ≤ 4096 ∧ (numX ys).2 + (numX ys).1 ≤ ys.length
    · have h9 := recs_ok (ys := ys) (x := (numX ys).1) (n := (numX ys).2) rfl hc.1 hc.2.1 hc.2.2
      have h8 := recs_len k (ys.drop ((numX ys).2 + (numX ys).1)) (by simp; omega)
      rw [h9, List.length_cons]
      rw [List.length_drop] at h8
      omega
    · rw [recs_no (by omega)]; simp
end Go.Proofs.YtgmghkakiocmjaaGreatDoor
namespace Go.Proofs.YtgmghkakiocmjaaGreatDoor
open Go Go.RowKit
set_option linter.unusedVariables false
set_option linter.unusedSimpArgs false
structure PP where
  kd : Nat
  x : Nat
  a : Option Addr
  len : Nat
  cap : Nat
  xs : List Int
def PP.enc (p : PP) : List Value := [.int .u8 (p.kd : Int), .int .u64 (p.x : Int), .slice p.a p.len p.cap]
theorem PP.enc_len (p : PP) : p.enc.length = 3 := rfl
structure PP.Ok (w : World) (p : PP) : Prop where
  s : SlE (Value.int .u8) w p.a p.xs
  l : p.xs.length = p.len
  c : p.len ≤ p.cap
  m : p.len ≤ 9223372036854775807
  r : ∀ x ∈ p.xs, 0 ≤ x ∧ x ≤ 255
  k : p.kd < 256
  x : p.x < 18446744073709551616
def putX (xs : List Int) (lg : Bool) (kd x : Nat) (ys : List Int) : List Int × Bool :=
  if kd % 4 = 0 then pS xs lg (leb x) else if kd % 4 = 1 then txS xs lg ys else if kd % 4 = 2 then pS xs lg ys else pS xs lg [if decide (x % 2 = 1) = true then 1 else 0]
end Go.Proofs.YtgmghkakiocmjaaGreatDoor
namespace Go.Proofs.YtgmghkakiocmjaaGreatDoor
open Go Go.RowKit
set_option linter.unusedVariables false
set_option linter.unusedSimpArgs false
def PP.bytes (p : PP) : List Int := if p.kd % 4 = 0 then leb p.x else if p.kd % 4 = 1 then leb p.xs.length ++ p.xs else if p.kd % 4 = 2 then p.xs else [if decide (p.x % 2 = 1) = true then 1 else 0]
def PP.put (s : List Int × Bool) (p : PP) : List Int × Bool := putX s.1 s.2 p.kd p.x p.xs
theorem leb_len_pos (x : Nat) : (leb x).length ≠ 0 := by
  by_cases h : x < 128
  · rw [leb_small h]; simp
  · rw [leb_big h]; simp
theorem numF_leb (r : List Int) (x : Nat) : ∀ (n0 acc : Nat), x * 128 ^ n0 < 18446744073709551616 → n0 ≤ 9 → (0 < n0 → x ≠ 0) → numF (leb x ++ r) n0 acc = (acc + x * 128 ^ n0, n0 + (leb x).length) := by
  induction x using Nat.strongRecOn with
  | ind x ih =>
    intro n0 acc hx hn h0
    have h99 : (128 : Nat) ^ 9 = 9223372036854775808 := by decide
    by_cases h : x < 128
    · rw [leb_small h]
      simp only [List.singleton_append, numF, Int.toNat_natCast]
      rw [if_pos h, if_neg (fun hh => h0 hh.2 hh.1), if_neg (by rintro ⟨rfl, h2⟩; rw [h99] at hx; omega)]
      rfl
    · rw [leb_big h]
      simp only [List.cons_append, numF, Int.toNat_natCast]
      have hn9 : n0 ≠ 9 := by rintro rfl; rw [h99] at hx; omega
      have e1 : (x / 128) * 128 ^ (n0 + 1) ≤ x * 128 ^ n0 := pow_step (Nat.le_refl _)
      rw [if_neg (by omega), if_neg hn9, ih (x / 128) (by omega) (n0 + 1) _ (by omega) (by omega) (fun _ => by omega)]
      have e2 : (x % 128 + 128) % 128 = x % 128 := by omega
      rw [e2]
      have e3 : x * 128 ^ n0 = x % 128 * 128 ^ n0 + x / 128 * 128 ^ (n0 + 1) := by
        rw [Nat.pow_succ, Nat.mul_comm (128 ^ n0) 128, ← Nat.mul_assoc, ← Nat.add_mul]
        congr 1
        omega
      rw [e3, List.length_cons]
      congr 1
      · omega
      · omega
theorem numX_leb {x : Nat} (r : List Int) (hx : x < 18446744073709551616) : numX (leb x ++ r) = (x, (leb x).length) := by
  unfold numX
  rw [numF_leb r x 0 0 (by simpa using hx) (by omega) (by omega)]
  simp
end Go.Proofs.YtgmghkakiocmjaaGreatDoor
namespace Go.Proofs.YtgmghkakiocmjaaGreatDoor
open Go Go.RowKit
set_option linter.unusedVariables false
set_option linter.unusedSimpArgs false
theorem appR_at {fr p : Nat} {h' : Hd} {bs ys : List Int} {D : Dk} (hf : D.Free) (hg : RG D) (hK : HdK h') (hp : p < 2) (hx : ∀ x ∈ bs ++ ys, 0 ≤ x ∧ x ≤ 255) (hfit : fr + 2 + ((bs ++ ys).length + 63) / 64 ≤ D.secs.length) (j : Nat) (hj : j < fr ∨ fr + 2 + ((bs ++ ys).length + 63) / 64 ≤ j) : (appR fr p h' bs ys D).2.at j = D.at j := by
  have hlen : (bs ++ ys).length = bs.length + ys.length := List.length_append
  unfold appR
  by_cases hy : ys = []
  · subst hy
    rw [if_pos rfl, wrHead_at _ _ D hf (by omega), if_neg (by omega)]
  · rw [if_neg hy]
    have hw := wrAll_free (rmW fr (bs ++ ys) (((bs ++ ys).length + 63) / 64 - bs.length / 64) (bs.length / 64)) D (fun e he => ⟨by have := rmW_lt _ _ e he; omega, rmW_RB hx _ _ e he⟩) hf hg
    have hat := wrRoom_at fr (bs ++ ys) (((bs ++ ys).length + 63) / 64 - bs.length / 64) (bs.length / 64) D hf (by omega)
    rw [if_pos hw.ok, wrHead_at _ _ _ hw.free (by rw [hw.len]; omega), if_neg (by omega), hat, if_neg (by omega)]
theorem wrH_at {fr p : Nat} {h' : Hd} {D : Dk} (hf : D.Free) (hp : fr + p < D.secs.length) (j : Nat) (hj : j ≠ fr + p) : (wrAll [(fr + p, secH h')] D).2.at j = D.at j := by
  rw [wrHead_at _ _ D hf hp, if_neg hj]
theorem LogAt.cong {D D' : Dk} {fr kn : Nat} {h : Hd} {bs : List Int} (hl : LogAt D fr kn h bs) (hk : 3 ≤ kn) (he : ∀ j, j < kn → D'.at (fr + j) = D.at (fr + j)) : LogAt D' fr kn h bs := by
  have hle := hl.le
  refine ⟨?_, hl.cnt, hl.le, ?_⟩
  · rw [← hl.st]
    exact stI_at (he 0 (by omega)) (he 1 (by omega))
  · refine rmL_ext fun q hq => ?_
    have h9 := rmL_get hl.bytes q hq
    try dsimp only at h9 ⊢
    rw [he _ (by omega)]
    exact h9
theorem recs_pack (ps : List CPrt) (h : ∀ p ∈ ps, p.xs.length ≤ 4096) : recs (packL ps) = ps.map (·.xs) := by
  induction ps with
  | nil => rfl
  | cons p ps ih =>
    have e : packL (p :: ps) = leb p.xs.length ++ (p.xs ++ packL ps) := by simp [packL]
    have hp := h p (List.mem_cons_self ..)
    have h9 := recs_ok (ys := packL (p :: ps)) (x := p.xs.length) (n := (leb p.xs.length).length) (by rw [e]; exact numX_leb _ (by omega)) (leb_len_pos _) hp (by rw [e]; simp)
    rw [h9, e, List.drop_left, List.take_left, ← List.append_assoc, List.drop_append_of_le_length (by simp), List.drop_of_length_le (by simp), List.nil_append, ih (fun q hq => h q (List.mem_cons_of_mem _ hq))]
    rfl
theorem packL_one (p : CPrt) : packL [p] = leb p.xs.length ++ p.xs := by simp [packL]
theorem packL_snoc {ps : List CPrt} {i : Nat} {p : CPrt} (h : ps[i]? = some p) : packL (ps.take (i + 1)) = packL (ps.take i) ++ packL [p] := by rw [packL_one]; exact packL_succ h
structure SG (ps : List CPrt) (i : Nat) (D : Dk) (h : Hd) : Prop where
  ok : D.OK 200
  fre : D.Free
  rg : RG D
  la : LogAt D 0 100 h (packL (ps.take i))
  lb : LogAt D 100 100 hdZ []
  K : HdK h
  ser : h.ser = i
  nt : h.nt = hdZ.nt
  len : (packL (ps.take i)).length ≤ 101 * i
  rng : ∀ x ∈ packL (ps.take i), 0 ≤ x ∧ x ≤ 255
theorem SG.zero (ps : List CPrt) : SG ps 0 (Dk.new 200) hdZ :=
  ⟨Dk.OK.new 200 (by decide), ⟨rfl, rfl⟩, RG.new 200, LogAt.new 200 0 100, LogAt.new 200 100 100, hdZ_K, rfl, rfl, by simp [packL], by simp [packL]⟩
theorem SG.next {ps : List CPrt} {i : Nat} {D : Dk} {h : Hd} (hJ : SG ps i D h) (hi : i < 20) {p : CPrt} (hp : ps[i]? = some p) (hl : p.xs.length ≤ 100) (hr : ∀ x ∈ p.xs, 0 ≤ x ∧ x ≤ 255) (pp : Nat) (h1 : Hd) (hh1 : h1 = ⟨(i : Int) + 1, (packL (ps.take i) ++ packL [p]).length, h.nt⟩) (hpp : (pp : Int) = h1.ser % 2) : (appR 0 pp h1 (packL (ps.take i)) (packL [p]) D).1 = true ∧ SG ps (i + 1) (appR 0 pp h1 (packL (ps.take i)) (packL [p]) D).2 h1 := by
  have hlen := hJ.len
  have hser := hJ.ser
  have hp1 : (packL [p]).length = 1 + p.xs.length := by rw [packL_one, leb_small (by omega)]; simp; omega
  have hal : (packL (ps.take i) ++ packL [p]).length = (packL (ps.take i)).length + (packL [p]).length := List.length_append
  have hK : HdK h1 := by
    rw [hh1]
    exact ⟨⟨by dsimp only; omega, by dsimp only; omega⟩, ⟨by dsimp only; omega, by dsimp only; omega⟩, hJ.K.nt, hJ.K.hi⟩
  have hrr : ∀ x ∈ packL (ps.take i) ++ packL [p], 0 ≤ x ∧ x ≤ 255 := fun x hx => (List.mem_append.1 hx).elim (hJ.rng x) (packL_rng (ps := [p]) (by simpa using hr) x)
  obtain ⟨k1, k2, k3, k4, k5, k6, k7⟩ := hJ.la.append (h' := h1) (ys := packL [p]) (by rw [hJ.ok.len]; decide) (by omega) hJ.fre hJ.rg hK (by rw [hh1]; dsimp only; omega) (by omega) (by rw [hh1]) (by omega) hrr pp hpp
  have hat := fun j hj => appR_at (fr := 0) (p := pp) (h' := h1) (bs := packL (ps.take i)) (ys := packL [p]) hJ.fre hJ.rg hK (by omega) hrr (by rw [hJ.ok.len]; omega) j hj
  refine ⟨k1, appR_OK hJ.ok (by omega) (by omega), k3, k4, by rw [packL_snoc hp]; exact k2, hJ.lb.cong (by omega) (fun j hj => hat _ (by omega)), hK, by rw [hh1]; dsimp only; omega, by rw [hh1]; exact hJ.nt, by rw [packL_snoc hp, hal]; omega, by rw [packL_snoc hp]; exact hrr⟩
end Go.Proofs.YtgmghkakiocmjaaGreatDoor
namespace Go.Proofs.YtgmghkakiocmjaaGreatDoor
open Go Go.RowKit
set_option linter.unusedVariables false
set_option linter.unusedSimpArgs false
theorem PP.Ok.ch0 {w w' : World} {p : PP} (h : p.Ok w) (hC : Ch [] w w') : p.Ok w' := ⟨h.s.ch0 hC, h.l, h.c, h.m, h.r, h.k, h.x⟩
end Go.Proofs.YtgmghkakiocmjaaGreatDoor
namespace Go.Proofs.YtgmghkakiocmjaaGreatDoor
open Go Go.RowKit
set_option linter.unusedVariables false
set_option linter.unusedSimpArgs false
structure CPrt.Os (w : World) (p : CPrt) : Prop where
  s : SlE (Value.int .u8) w p.a p.xs
  l : p.xs.length = p.len
theorem CPrt.Ok.os {w : World} {p : CPrt} (h : p.Ok w) : p.Os w := ⟨h.s, h.l⟩
end Go.Proofs.YtgmghkakiocmjaaGreatDoor
namespace Go.Proofs.YtgmghkakiocmjaaGreatDoor
open Go Go.RowKit
set_option linter.unusedVariables false
set_option linter.unusedSimpArgs false
def gB (x : Int) (j : Nat) : Int := x / 2 ^ (56 - 8 * j) % 256
def ntA (x : Int) (j : Nat) : Int := if j < 8 then gB x j else 0
def updF (F : Nat → Int) (j : Nat) (v : Int) : Nat → Int := fun q => if q = j then v else F q
theorem byS_upd (F : Nat → Int) (n j : Nat) (hj : j < n) {v : Int} : (byS F 0 n).toArray.setIfInBounds j (.int .u8 v) = (byS (updF F j v) 0 n).toArray := by
  apply Array.ext'
  rw [Array.toList_setIfInBounds]
  apply List.ext_getElem
  · simp [byS, byI]
  · intro q h1 h2
    simp [byS, byI, updF, List.getElem_set]
    split <;> rename_i e
    · rw [if_pos e.symm]
    · rw [if_neg (fun h => e h.symm)]
theorem gB_rng (x : Int) (j : Nat) : 0 ≤ gB x j ∧ gB x j ≤ 255 := by unfold gB; omega
theorem ntA_RB (x : Int) : RB (ntA x) := ⟨fun j => by unfold ntA; have := gB_rng x j; split <;> omega⟩
theorem ntA_hi (x : Int) : ∀ j, 16 ≤ j → ntA x j = 0 := fun j hj => by unfold ntA; rw [if_neg (by omega)]
theorem gen_of {x : Int} (h : 0 ≤ x ∧ x ≤ 18446744073709551615) : numB (ntA x) 0 8 = x := by
  have e0 : ntA x (0 + 0) = x / 72057594037927936 % 256 := rfl
  have e1 : ntA x (0 + 1) = x / 281474976710656 % 256 := rfl
  have e2 : ntA x (0 + 2) = x / 1099511627776 % 256 := rfl
  have e3 : ntA x (0 + 3) = x / 4294967296 % 256 := rfl
  have e4 : ntA x (0 + 4) = x / 16777216 % 256 := rfl
  have e5 : ntA x (0 + 5) = x / 65536 % 256 := rfl
  have e6 : ntA x (0 + 6) = x / 256 % 256 := rfl
  have e7 : ntA x (0 + 7) = x / 1 % 256 := rfl
  have s1 : numB (ntA x) 0 1 = x / 72057594037927936 := by rw [numB, numB, e0]; omega
  have s2 : numB (ntA x) 0 2 = x / 281474976710656 := by rw [numB, s1, e1]; omega
  have s3 : numB (ntA x) 0 3 = x / 1099511627776 := by rw [numB, s2, e2]; omega
  have s4 : numB (ntA x) 0 4 = x / 4294967296 := by rw [numB, s3, e3]; omega
  have s5 : numB (ntA x) 0 5 = x / 16777216 := by rw [numB, s4, e4]; omega
  have s6 : numB (ntA x) 0 6 = x / 65536 := by rw [numB, s5, e5]; omega
  have s7 : numB (ntA x) 0 7 = x / 256 := by rw [numB, s6, e6]; omega
  rw [numB, s7, e7]; omega
def NF (g0 g1 : Int) (n : Nat) (F : Nat → Int) : Prop := ∀ q, F q = if q < n ∧ q % 16 < 8 then gB (if q < 16 then g0 else g1) (q % 16) else 0
theorem NF.zero (g0 g1 : Int) : NF g0 g1 0 (fun _ => 0) := fun q => by rw [if_neg (by omega)]
theorem NF.step {g0 g1 : Int} {i j : Nat} {F : Nat → Int} (h : NF g0 g1 (16 * i + j) F) (hi : i < 2) (hj : j < 8) {v : Int} (hv : v = gB (if i = 0 then g0 else g1) j) : NF g0 g1 (16 * i + (j + 1)) (updF F (16 * i + j) v) := fun q => by
  unfold updF
  by_cases e : q = 16 * i + j
  · subst e
    have e1 : (16 * i + j) % 16 = j := by omega
    rw [if_pos rfl, if_pos ⟨by omega, by omega⟩, e1, hv]
    congr 1
    by_cases hi0 : i = 0
    · rw [if_pos hi0, if_pos (by omega)]
    · rw [if_neg hi0, if_neg (by omega)]
  · rw [if_neg e, h q]
    by_cases c : q < 16 * i + j ∧ q % 16 < 8
    · rw [if_pos c, if_pos (show q < 16 * i + (j + 1) ∧ q % 16 < 8 from ⟨by omega, c.2⟩)]
    · rw [if_neg c, if_neg (show ¬ (q < 16 * i + (j + 1) ∧ q % 16 < 8) by omega)]
theorem NF.row {g0 g1 : Int} {i : Nat} {F : Nat → Int} (h : NF g0 g1 (16 * i + 8) F) : NF g0 g1 (16 * (i + 1) + 0) F := fun q => by
  rw [h q]
  by_cases c : q < 16 * i + 8 ∧ q % 16 < 8
  · rw [if_pos c, if_pos (show q < 16 * (i + 1) + 0 ∧ q % 16 < 8 from ⟨by omega, c.2⟩)]
  · rw [if_neg c, if_neg (show ¬ (q < 16 * (i + 1) + 0 ∧ q % 16 < 8) by omega)]
end Go.Proofs.YtgmghkakiocmjaaGreatDoor
namespace Go.Proofs.YtgmghkakiocmjaaGreatDoor
open Go Go.RowKit
set_option linter.unusedVariables false
set_option linter.unusedSimpArgs false
theorem hd64 {F G : Nat → Int} (h : ∀ j, j < 64 → F j = G j) : hdOf F = hdOf G ∧ (hdS F ↔ hdS G) := by
  have hn : ∀ o k, o + k ≤ 64 → numB F o k = numB G o k := by
    intro o k
    induction k with
    | zero => intro _; rfl
    | succ k ih => intro hk; rw [numB, numB, ih (by omega), h _ (by omega)]
  refine ⟨?_, ?_⟩
  · unfold hdOf
    rw [hn 0 8 (by omega), hn 8 8 (by omega)]
    congr 1
    funext j
    by_cases hj : j < 16
    · rw [if_pos hj, if_pos hj, h _ (by omega)]
    · rw [if_neg hj, if_neg hj]
  · unfold hdS
    constructor
    · intro hf j hj
      rw [← h j (by omega), ← h _ (by omega)]; exact hf j hj
    · intro hf j hj
      rw [h j (by omega), h _ (by omega)]; exact hf j hj
theorem stepH64 {room p : Nat} {s : Hd} {F G : Nat → Int} (h : ∀ j, j < 64 → F j = G j) : stepH room p s F = stepH room p s G := by
  obtain ⟨h1, h2⟩ := hd64 h
  unfold stepH hdU
  simp only [h1, h2]
theorem stI64 {room : Nat} {Fs Gs : Nat → Nat → Int} (h0 : ∀ j, j < 64 → Fs 0 j = Gs 0 j) (h1 : ∀ j, j < 64 → Fs 1 j = Gs 1 j) : stI room Fs 2 = stI room Gs 2 := by
  show stepH room 1 (stepH room 0 hdZ (Fs 0)) (Fs 1) = stepH room 1 (stepH room 0 hdZ (Gs 0)) (Gs 1)
  rw [stepH64 h0, stepH64 h1]
theorem no_head {room : Nat} {Fs Gs : Nat → Nat → Int} {h : Hd} (hF : stI room Fs 2 = h) (p : Nat) (hp : (p : Int) = (h.ser + 1) % 2) (hO : Gs (1 - p) = Fs (1 - p)) (hn : ¬ hdS (Gs p)) : stI room Gs 2 = h := by
  have hF : stepH room 1 (stepH room 0 hdZ (Fs 0)) (Fs 1) = h := hF
  show stepH room 1 (stepH room 0 hdZ (Gs 0)) (Gs 1) = h
  have hz : hdZ.ser = 0 := rfl
  have hev : (stepH room 0 hdZ (Fs 0)).ser % 2 = 0 ∧ 0 ≤ (stepH room 0 hdZ (Fs 0)).ser := by
    unfold stepH
    split
    · rename_i hu; exact ⟨hu.2.2.1, by have := hu.2.2.2; omega⟩
    · exact ⟨rfl, by decide⟩
  obtain rfl | rfl : p = 0 ∨ p = 1 := by omega
  · have hG1 : Gs 1 = Fs 1 := hO
    have e1 : stepH room 0 hdZ (Gs 0) = hdZ := if_neg fun hu => hn hu.1
    rw [e1, hG1]
    generalize stepH room 0 hdZ (Fs 0) = s1 at hF hev
    unfold stepH at hF
    split at hF
    · rename_i hu
      have h4 := hu.2.2.2
      unfold stepH
      rw [if_pos ⟨hu.1, hu.2.1, hu.2.2.1, by omega⟩]
      exact hF
    · exfalso
      rw [hF] at hev
      omega
  · have hG0 : Gs 0 = Fs 0 := hO
    rw [hG0]
    have e1 : ∀ s, stepH room 1 s (Gs 1) = s := fun s => if_neg fun hu => hn hu.1
    rw [e1]
    rw [stepH] at hF
    split at hF
    · rename_i hu
      have h3 := hu.2.2.1
      rw [hF] at h3
      omega
    · exact hF
theorem torn_di {B N : Nat → Int} (hB : hdS B) (hN : hdS N) (c : Int) : ¬ hdS (tornF B N c) ∨ (∀ j, j < 64 → tornF B N c j = B j) ∨ (∀ j, j < 64 → tornF B N c j = N j) := by
  by_cases hT : hdS (tornF B N c)
  · right
    unfold hdS at hT hB hN
    by_cases hc : c < 128
    · have hv : ∀ j, tornF B N c j = if j < (min c 64).toNat then N j else B j := fun j => by unfold tornF; rw [if_pos hc]
      by_cases hk : (min c 64).toNat ≤ 32
      · left
        have h2 : ∀ j, 32 ≤ j → tornF B N c j = B j := fun j hj => by rw [hv, if_neg (by omega)]
        intro j hj
        by_cases h3 : j < 32
        · rw [hT j h3, h2 _ (by omega), ← hB j h3]
        · exact h2 j (by omega)
      · right
        have h2 : ∀ j, j < 32 → tornF B N c j = N j := fun j hj => by rw [hv, if_pos (by omega)]
        intro j hj
        by_cases h3 : j < 32
        · exact h2 j h3
        · have h4 := hT (j - 32) (by omega)
          have h5 := hN (j - 32) (by omega)
          rw [show 32 + (j - 32) = j by omega] at h4 h5
          rw [← h4, h2 _ (by omega), h5]
    · have hv : ∀ j, tornF B N c j = if j < (64 - min (c - 128) 64).toNat then B j else N j := fun j => by unfold tornF; rw [if_neg hc]
      by_cases hk : 32 ≤ (64 - min (c - 128) 64).toNat
      · left
        have h2 : ∀ j, j < 32 → tornF B N c j = B j := fun j hj => by rw [hv, if_pos (by omega)]
        intro j hj
        by_cases h3 : j < 32
        · exact h2 j h3
        · have h4 := hT (j - 32) (by omega)
          have h5 := hB (j - 32) (by omega)
          rw [show 32 + (j - 32) = j by omega] at h4 h5
          rw [← h4, h2 _ (by omega), h5]
      · right
        have h2 : ∀ j, 32 ≤ j → tornF B N c j = N j := fun j hj => by rw [hv, if_neg (by omega)]
        intro j hj
        by_cases h3 : j < 32
        · rw [hT j h3, h2 _ (by omega), ← hN j h3]
        · exact h2 j (by omega)
  · exact .inl hT
theorem torn_again (B N M : Nat → Int) (c : Int) (j : Nat) : tornF (tornF B N c) M c j = tornF B M c j := by
  unfold tornF
  split <;> split <;> rfl
theorem torn_cong {X Y M : Nat → Int} {c : Int} {j : Nat} (h : X j = Y j) : tornF X M c j = tornF Y M c j := by
  unfold tornF
  split <;> split <;> first | rfl | exact h
theorem torn_self (B : Nat → Int) (c : Int) (j : Nat) : tornF B B c j = B j := by
  unfold tornF
  split <;> split <;> rfl
def upd (Fs : Nat → Nat → Int) (p : Nat) (B : Nat → Int) (i : Nat) : Nat → Int := if i = p then B else Fs i
structure HS (room : Nat) (c : Int) (Fs : Nat → Nat → Int) (h : Hd) (p : Nat) : Prop where
  st : stI room Fs 2 = h
  own : hdS (Fs (1 - p))
  base : ∃ B N, hdS B ∧ (∀ j, j < 64 → Fs p j = tornF B N c j) ∧ stI room (upd Fs p B) 2 = h
theorem stI_two {room : Nat} {Fs Gs : Nat → Nat → Int} (p : Nat) (hp : p < 2) (h0 : Fs p = Gs p) (h1 : Fs (1 - p) = Gs (1 - p)) : stI room Fs 2 = stI room Gs 2 := by
  obtain rfl | rfl : p = 0 ∨ p = 1 := by omega
  · exact stI_at h0 h1
  · exact stI_at h1 h0
theorem stI_two64 {room : Nat} {Fs Gs : Nat → Nat → Int} (p : Nat) (hp : p < 2) (h0 : ∀ j, j < 64 → Fs p j = Gs p j) (h1 : Fs (1 - p) = Gs (1 - p)) : stI room Fs 2 = stI room Gs 2 := by
  obtain rfl | rfl : p = 0 ∨ p = 1 := by omega
  · exact stI64 h0 (fun j _ => by have h2 : Fs 1 = Gs 1 := h1; rw [h2])
  · exact stI64 (fun j _ => by have h2 : Fs 0 = Gs 0 := h1; rw [h2]) h0
theorem HS.cong {room : Nat} {c : Int} {Fs Gs : Nat → Nat → Int} {h : Hd} {p : Nat} (hp : p < 2) (hs : HS room c Fs h p) (h0 : Gs p = Fs p) (h1 : Gs (1 - p) = Fs (1 - p)) : HS room c Gs h p := by
  obtain ⟨B, N, k1, k2, k3⟩ := hs.base
  refine ⟨by rw [← hs.st]; exact stI_two p hp h0 h1, by rw [h1]; exact hs.own, B, N, k1, fun j hj => by rw [h0]; exact k2 j hj, ?_⟩
  rw [← k3]
  refine stI_two p hp ?_ ?_
  · simp [upd]
  · simp only [upd]
    rw [if_neg (by omega), if_neg (by omega), h1]
theorem HS.whole {room : Nat} {c : Int} {Fs Gs : Nat → Nat → Int} {h h' : Hd} {p : Nat} (hp : (p : Int) = h'.ser % 2) (hs : HS room c Fs h p) (hK : HdK h') (hser : h'.ser = h.ser + 1) (hs0 : 0 ≤ h.ser) (hc : h'.cnt ≤ room) (h0 : ∀ j, j < 64 → Gs p j = secH h' j) (h1 : Gs (1 - p) = Fs (1 - p)) : HS room c Gs h' (1 - p) := by
  have hp2 : p < 2 := by omega
  have hst : stI room Gs 2 = h' := by
    have h9 : stI room (upd Gs p (secH h')) 2 = h' := next_head hs.st hK hser hs0 hc p hp (by simp [upd]) (by simp only [upd]; rw [if_neg (by omega), h1])
    rw [← h9]
    refine stI_two64 p hp2 (fun j hj => ?_) ?_
    · simp only [upd, if_true]; exact h0 j hj
    · simp only [upd]; rw [if_neg (by omega)]
  refine ⟨hst, ?_, Gs (1 - p), Gs (1 - p), by rw [h1]; exact hs.own, fun j _ => (torn_self _ _ _).symm, ?_⟩
  · rw [show 1 - (1 - p) = p by omega]
    exact (hd64 h0).2.2 (secH_S h')
  · rw [← hst]
    refine stI_two p hp2 ?_ ?_
    · simp only [upd]; rw [if_neg (by omega)]
    · simp only [upd, if_true]
theorem HS.torn {room : Nat} {c : Int} {Fs Gs : Nat → Nat → Int} {h h' : Hd} {p : Nat} (hp : (p : Int) = h'.ser % 2) (hs : HS room c Fs h p) (hK : HdK h') (hser : h'.ser = h.ser + 1) (hs0 : 0 ≤ h.ser) (hc : h'.cnt ≤ room) (h0 : ∀ j, j < 64 → Gs p j = tornF (Fs p) (secH h') c j) (h1 : Gs (1 - p) = Fs (1 - p)) : HS room c Gs h p ∨ HS room c Gs h' (1 - p) := by
  have hp2 : p < 2 := by omega
  obtain ⟨B, N, k1, k2, k3⟩ := hs.base
  have hT : ∀ j, j < 64 → Gs p j = tornF B (secH h') c j := fun j hj => by
    rw [h0 j hj, torn_cong (k2 j hj), torn_again]
  have hB : stI room (upd Gs p B) 2 = h := by
    rw [← k3]
    refine stI_two p hp2 ?_ ?_
    · simp [upd]
    · simp only [upd]
      rw [if_neg (by omega), if_neg (by omega), h1]
  have hown : hdS (Gs (1 - p)) := by rw [h1]; exact hs.own
  rcases torn_di k1 (secH_S h') c with hd | hd | hd
  · left
    refine ⟨no_head hs.st p (by omega) h1 (fun hy => hd ((hd64 hT).2.1 hy)), hown, B, secH h', k1, hT, hB⟩
  · left
    refine ⟨?_, hown, B, secH h', k1, hT, hB⟩
    rw [← hB]
    refine stI_two64 p hp2 (fun j hj => ?_) ?_
    · simp only [upd, if_true]; rw [hT j hj, hd j hj]
    · simp only [upd]; rw [if_neg (by omega)]
  · right
    exact hs.whole hp hK hser hs0 hc (fun j hj => by rw [hT j hj, hd j hj]) h1
/-! ### what writes and a crash leave, byte by byte -/
structure Pw (D : Dk) (l : List (Nat × (Nat → Int))) (D' : Dk) : Prop where
  s : ∀ j x, D'.at j x = D.at j x ∨ ∃ e ∈ l, e.1 = j ∧ D'.at j x = e.2 x
  m : ∀ e' ∈ D'.M, 0 ≤ e'.1 ∧ ∀ x, e'.2.1 x = D.at e'.1.toNat x ∨ ∃ e ∈ l, e.1 = e'.1.toNat ∧ e'.2.1 x = e.2 x
theorem Pw.refl {D : Dk} (l : List (Nat × (Nat → Int))) (h : D.M = []) : Pw D l D := ⟨fun j x => .inl rfl, fun e' he => by rw [h] at he; simp at he⟩
theorem Pw.put {D D' : Dk} {l : List (Nat × (Nat → Int))} (h : Pw D l D') {e : Nat × (Nat → Int)} (he : e ∈ l) (hi : e.1 < D'.secs.length) : Pw D l (D'.lit.put e.1 e.2) := by
  refine ⟨fun j x => ?_, fun e' he' => ?_⟩
  · rw [put_at _ _ _ _ hi]
    split
    · rename_i hj; exact .inr ⟨e, he, hj.symm, rfl⟩
    · exact h.s j x
  · unfold Dk.put at he'
    split at he'
    · simp only [List.mem_append, List.mem_singleton] at he'
      rcases he' with he' | rfl
      · exact h.m e' he'
      · exact ⟨by simp, fun x => by simpa [Dk.at, Dk.lit] using h.s e.1 x⟩
    · exact h.m e' he'
theorem wrAll_Pw {D : Dk} {l : List (Nat × (Nat → Int))} : ∀ (l' : List (Nat × (Nat → Int))) (D' : Dk), (∀ e ∈ l', e ∈ l ∧ e.1 < D'.secs.length) → Pw D l D' → Pw D l (wrAll l' D').2
  | [], D', _, h => by
    unfold wrAll Dk.sy
    split
    · exact ⟨h.s, h.m⟩
    · exact ⟨h.s, fun e' he => by simp [Dk.still] at he⟩
  | e :: l', D', hl, h => by
    unfold wrAll
    split
    · exact ⟨h.s, h.m⟩
    · have h1 := hl e (List.mem_cons_self ..)
      exact wrAll_Pw l' _ (fun e' he => by rw [put_slen]; exact hl e' (List.mem_cons_of_mem _ he)) (h.put h1.1 h1.2)
theorem torn_or (a b : Nat → Int) (k : Int) (x : Nat) : tornF a b k x = a x ∨ tornF a b k x = b x := by
  unfold tornF
  split <;> split
  · exact .inr rfl
  · exact .inl rfl
  · exact .inl rfl
  · exact .inr rfl
theorem crashK_Pw {P : Nat → Nat → Int → Prop} {M : List (ME (Nat → Int))} (hM : ∀ e' ∈ M, ∀ x, P e'.1.toNat x (e'.2.1 x)) (fate : List Int) : ∀ (is : List Int) (t : Nat) (secs : List (Nat → Int)), (∀ i ∈ is, i ∈ M.map (·.1)) → (∀ (j : Nat) x, P j x (((secs[j]?).getD fun _ => 0) x)) → ∀ (j : Nat) x, P j x ((((crashK M fate t is secs)[j]?).getD fun _ => 0) x)
  | [], _, _, _, hs, j, x => hs j x
  | i :: is, t, secs, hi, hs, j, x => by
    rw [crashK]
    refine crashK_Pw hM fate is (t + 1) _ (fun k hk => hi k (List.mem_cons_of_mem _ hk)) (fun j x => ?_) j x
    rw [List.getElem?_set]
    split
    · rename_i hj
      split
      · obtain ⟨e, he, hei⟩ := List.mem_map.1 (hi i (List.mem_cons_self ..))
        have hf : ∃ e' ∈ M, e'.1 = i ∧ mFind M i = some e'.2.1 := by
          unfold mFind
          cases hq : M.find? fun e => e.1 == i with
          | none => rw [List.find?_eq_none] at hq; exact absurd (by simp [hei]) (hq e he)
          | some e' => exact ⟨e', List.mem_of_find?_eq_some hq, by simpa using List.find?_some hq, rfl⟩
        obtain ⟨e', he', h1, h2⟩ := hf
        rw [h2]
        simp only [Option.getD_some]
        have hA := hM e' he' x
        rw [h1, hj] at hA
        have hBx := hs j x
        rw [hj]
        rcases torn_or e'.2.1 ((secs[j]?).getD fun _ => 0) (fateN fate t) x with h3 | h3
        · rw [h3]; exact hA
        · rw [h3]; exact hBx
      · have hBx := hs j x
        rename_i hlt
        rw [List.getElem?_eq_none (by omega)] at hBx
        exact hBx
    · exact hs j x
theorem crash_Pw {D D' : Dk} {l : List (Nat × (Nat → Int))} (h : Pw D l D') (fate : List Int) : ∀ j x, (D'.crash fate).at j x = D.at j x ∨ ∃ e ∈ l, e.1 = j ∧ (D'.crash fate).at j x = e.2 x := by
  have h1 := crashK_Pw (P := fun j x v => v = D.at j x ∨ ∃ e ∈ l, e.1 = j ∧ v = e.2 x) (M := D'.M) (fun e' he x => (h.m e' he).2 x) fate (keysOf D'.M) 0 D'.secs (fun i hi => (List.mergeSort_perm _ _).mem_iff.1 hi) (fun j x => h.s j x)
  exact h1
theorem crash_nil {D : Dk} (h : D.M = []) (fate : List Int) : (D.crash fate).secs = D.secs := by
  unfold Dk.crash keysOf
  rw [h]
  simp [crashK]
theorem crash_at_nil {D : Dk} (h : D.M = []) (fate : List Int) (j : Nat) : (D.crash fate).at j = D.at j := by
  unfold Dk.at; rw [crash_nil h]
theorem crash1_at {D : Dk} (h : D.M = []) (i : Nat) (f : Nat → Int) (hi : i < D.secs.length) (fate : List Int) (j : Nat) : ((D.lit.put i f).dead.crash fate).at j = if j = i then tornF (D.at i) f (fateN fate 0) else D.at j := by
  have hm : mFind D.M (i : Int) = none := by rw [h]; rfl
  have hp : D.lit.put i f = { D.lit with secs := D.secs.set i f, M := [((i : Int), D.at i, D.cl)], cl := D.cl + 1 } := by
    unfold Dk.put
    have hm2 : mFind D.lit.M (i : Int) = none := hm
    rw [hm2]
    show ({ D.lit with secs := D.secs.set i f, M := D.M ++ [_], cl := D.cl + 1 } : Dk) = _
    rw [h]; rfl
  unfold Dk.at
  rw [hp]
  have hk : keysOf [((i : Int), D.at i, D.cl)] = [(i : Int)] := by simp [keysOf]
  show (((crashK _ fate 0 (keysOf [((i : Int), D.at i, D.cl)]) (D.secs.set i f))[j]?).getD _) = _
  rw [hk]
  simp only [crashK]
  have hmf : mFind [((i : Int), D.at i, D.cl)] (i : Int) = some (D.at i) := by simp [mFind]
  rw [show (Dk.dead _).M = [((i : Int), D.at i, D.cl)] from rfl, hmf]
  simp only [Option.getD_some, Int.toNat_natCast]
  rw [List.getElem?_set]
  by_cases e : j = i
  · subst e
    simp [hi, Dk.at]
  · rw [if_neg (fun h => e h.symm), if_neg e, List.getElem?_set_ne (fun h => e h.symm)]
end Go.Proofs.YtgmghkakiocmjaaGreatDoor
namespace Go.Proofs.YtgmghkakiocmjaaGreatDoor
open Go Go.RowKit
set_option linter.unusedVariables false
set_option linter.unusedSimpArgs false
theorem wrAll_t : ∀ (l : List (Nat × (Nat → Int))) (D : Dk), (wrAll l D).1 = true → (wrAll l D).2.M = []
  | [], D, h => by
    unfold wrAll Dk.sy at h ⊢
    split at h
    · cases h
    · rename_i hp; rw [if_neg hp]; rfl
  | e :: l, D, h => by
    unfold wrAll at h ⊢
    split at h
    · cases h
    · rename_i hp; rw [if_neg hp]; exact wrAll_t l _ h
theorem wrRoom_t (fr : Nat) (xs : List Int) : ∀ (k q : Nat) (D : Dk), (wrAll (rmW fr xs k q) D).1 = true → fr + (2 + q + k) ≤ D.secs.length → ∀ j, (wrAll (rmW fr xs k q) D).2.at j = if fr + (2 + q) ≤ j ∧ j < fr + (2 + q + k) then secAt xs (j - fr - 2) else D.at j
  | 0, q, D, h, _, j => by
    unfold rmW wrAll Dk.sy at h ⊢
    split at h
    · cases h
    · rename_i hp; rw [if_neg hp, if_neg (by omega)]; rfl
  | k + 1, q, D, h, hl, j => by
    unfold rmW wrAll at h ⊢
    split at h
    · cases h
    · rename_i hp
      rw [if_neg hp]
      dsimp only at h ⊢
      rw [wrRoom_t fr xs k (q + 1) _ h (by rw [put_slen]; omega) j, put_at _ _ _ _ (by omega)]
      by_cases e : j = fr + (2 + q)
      · subst e
        rw [if_neg (by omega), if_pos rfl, if_pos (by omega)]
        congr 1
        omega
      · rw [if_neg e]
        by_cases e2 : fr + (2 + (q + 1)) ≤ j ∧ j < fr + (2 + (q + 1) + k)
        · rw [if_pos e2, if_pos (by omega)]
        · rw [if_neg e2, if_neg (by omega)]
theorem wrAll_gen : ∀ (l : List (Nat × (Nat → Int))) (D : Dk), (∀ e ∈ l, e.1 < D.secs.length ∧ RB e.2) → RG D → RG (wrAll l D).2 ∧ (wrAll l D).2.cl ≤ D.cl + l.length ∧ (wrAll l D).2.secs.length = D.secs.length
  | [], D, _, hg => by
    unfold wrAll Dk.sy
    split
    · exact ⟨hg.dead, Nat.le_refl _, rfl⟩
    · exact ⟨hg.still, Nat.le_refl _, rfl⟩
  | e :: l, D, hl, hg => by
    unfold wrAll
    obtain ⟨h1, h2⟩ := hl e (List.mem_cons_self ..)
    split
    · exact ⟨hg.dead, by show D.cl ≤ _; omega, rfl⟩
    · obtain ⟨k1, k2, k3⟩ := wrAll_gen l (D.lit.put e.1 e.2) (fun e' he => by rw [put_slen]; exact hl e' (List.mem_cons_of_mem _ he)) (hg.put _ h1 h2)
      have h5 := put_cl D.lit e.1 e.2
      have h6 : D.lit.cl = D.cl := rfl
      exact ⟨k1, by simp only [List.length_cons]; omega, by rw [k3, put_slen]⟩
theorem appR_gen {fr p : Nat} {h' : Hd} {bs ys : List Int} {D : Dk} (hg : RG D) (hK : HdK h') (hx : ∀ x ∈ bs ++ ys, 0 ≤ x ∧ x ≤ 255) (hp : p < 2) (hl : fr + 2 + ((bs ++ ys).length + 63) / 64 ≤ D.secs.length) : RG (appR fr p h' bs ys D).2 ∧ (appR fr p h' bs ys D).2.cl ≤ D.cl + ((bs ++ ys).length + 63) / 64 + 1 := by
  have key : ∀ D2 : Dk, RG D2 → D2.secs.length = D.secs.length → RG (wrAll [(fr + p, secH h')] D2).2 ∧ (wrAll [(fr + p, secH h')] D2).2.cl ≤ D2.cl + 1 := fun D2 h2 h3 => by
    obtain ⟨k1, k2, _⟩ := wrAll_gen [(fr + p, secH h')] D2 (fun e he => by simp only [List.mem_singleton] at he; subst he; exact ⟨by dsimp only; omega, secH_RB hK⟩) h2
    exact ⟨k1, k2⟩
  obtain ⟨w1, w2, w3⟩ := wrAll_gen (rmW fr (bs ++ ys) (((bs ++ ys).length + 63) / 64 - bs.length / 64) (bs.length / 64)) D (fun e he => ⟨by have h1 := rmW_lt _ _ e he; have h2 : (bs ++ ys).length = bs.length + ys.length := List.length_append; omega, rmW_RB hx _ _ e he⟩) hg
  rw [rmW_len] at w2
  unfold appR
  split
  · obtain ⟨k1, k2⟩ := key D hg rfl; exact ⟨k1, by omega⟩
  · split
    · obtain ⟨k1, k2⟩ := key _ w1 w3; exact ⟨k1, by omega⟩
    · exact ⟨w1, by omega⟩
theorem rmW_mem {fr : Nat} {xs : List Int} : ∀ (k q : Nat), ∀ e ∈ rmW fr xs k q, ∃ t, e = (fr + (2 + t), secAt xs t)
  | 0, _, e, h => by simp [rmW] at h
  | k + 1, q, e, h => by
    simp only [rmW, List.mem_cons] at h
    rcases h with rfl | h
    · exact ⟨q, rfl⟩
    · exact rmW_mem k (q + 1) e h
structure LS (c : Int) (D : Dk) (h : Hd) (bs : List Int) (p : Nat) : Prop where
  hs : HS 1472 c (fun i => D.at (3 + i)) h p
  cnt : h.cnt = bs.length
  le : bs.length ≤ 1472
  bytes : rmL (fun i => D.at (3 + i)) bs.length = bs
theorem LS.lat {c : Int} {D : Dk} {h : Hd} {bs : List Int} {p : Nat} (hl : LS c D h bs p) : LogAt D 3 25 h bs := ⟨hl.hs.st, hl.cnt, hl.le, hl.bytes⟩
theorem rmL_cong {Fs Gs : Nat → Nat → Int} {n : Nat} (h : ∀ i, 2 ≤ i → Gs i = Fs i) : rmL Gs n = rmL Fs n := by
  unfold rmL
  apply List.map_congr_left
  intro p _
  rw [h _ (by omega)]
def Dk.burn (D : Dk) (n : Int) : Dk := { D with fused := decide (0 ≤ n), fuse := max n 0 }
theorem Dk.OK.burn {k : Nat} {D : Dk} (h : D.OK k) {n : Int} (hn : n ≤ 9223372036854775807) : (D.burn n).OK k := ⟨h.len, h.n9, h.ks, h.bd, h.cl, h.bs, h.ml, by simp only [Dk.burn]; omega⟩
theorem LS.burn {c : Int} {D : Dk} {h : Hd} {bs : List Int} {p : Nat} (hl : LS c D h bs p) (n : Int) : LS c (D.burn n) h bs p := ⟨hl.hs, hl.cnt, hl.le, hl.bytes⟩
theorem RG.burn {D : Dk} (h : RG D) (n : Int) : RG (D.burn n) := ⟨h.s, h.m⟩
structure CJ (c : Int) (i : Nat) (D : Dk) (h : Hd) (bs : List Int) (p : Nat) : Prop where
  ok : D.OK 30
  fre : D.Free
  rg : RG D
  m : D.M = []
  ls : LS c D h bs p
  K : HdK h
  rng : ∀ x ∈ bs, 0 ≤ x ∧ x ≤ 255
  ser : h.ser ≤ i
  cl : D.cl ≤ 30 * i
  hp : (p : Int) = (h.ser + 1) % 2
theorem CJ.new (c : Int) : CJ c 0 (Dk.new 30) hdZ [] 1 := by
  have hf : (fun i => (Dk.new 30).at (3 + i)) = fun _ _ => 0 := by funext i; rw [Dk.new_at]
  refine ⟨Dk.OK.new 30 (by decide), ⟨rfl, rfl⟩, RG.new 30, rfl, ⟨⟨?_, ?_, fun _ => 0, fun _ => 0, fun j _ => rfl, fun j hj => ?_, ?_⟩, rfl, by decide, rfl⟩, hdZ_K, by simp, by decide, Nat.zero_le _, rfl⟩
  · rw [hf]; exact stI_zero _
  · (try dsimp only); rw [Dk.new_at]; exact fun j _ => rfl
  · (try dsimp only); rw [Dk.new_at, torn_self]
  · have hu : upd (fun i => (Dk.new 30).at (3 + i)) 1 (fun _ => 0) = fun _ _ => 0 := by
      funext i; unfold upd; split
      · rfl
      · exact Dk.new_at 30 _
    rw [hu]; exact stI_zero _
theorem CJ.stay {c : Int} {i : Nat} {D : Dk} {h : Hd} {bs : List Int} {p : Nat} (hJ : CJ c i D h bs p) (n : Int) (hn : n ≤ 9223372036854775807) (fate : List Int) : CJ c (i + 1) ((D.burn n).crash fate) h bs p := by
  have hat : ∀ j, ((D.burn n).crash fate).at j = D.at j := fun j => by rw [crash_at_nil (D := D.burn n) hJ.m fate]; rfl
  have hfe : (fun i => ((D.burn n).crash fate).at (3 + i)) = fun i => D.at (3 + i) := by funext i; exact hat _
  have hser := hJ.ser
  have hcl := hJ.cl
  exact ⟨(hJ.ok.burn hn).crash fate, crash_free _ _, (hJ.rg.burn n).crash fate, rfl, ⟨by rw [hfe]; exact hJ.ls.hs, hJ.ls.cnt, hJ.ls.le, by rw [hfe]; exact hJ.ls.bytes⟩, hJ.K, hJ.rng, by omega, by show D.cl ≤ _; omega, hJ.hp⟩
end Go.Proofs.YtgmghkakiocmjaaGreatDoor
namespace Go.Proofs.YtgmghkakiocmjaaGreatDoor
open Go Go.RowKit
set_option linter.unusedVariables false
set_option linter.unusedSimpArgs false
def packX (l : List (List Int)) : List Int := l.flatMap fun x => leb x.length ++ x
theorem packX_map (ps : List CPrt) : packX (ps.map (·.xs)) = packL ps := by
  unfold packX packL
  induction ps with
  | nil => rfl
  | cons p ps ih => simp only [List.map_cons, List.flatMap_cons, ih]
theorem packX_app (a b : List (List Int)) : packX (a ++ b) = packX a ++ packX b := by unfold packX; exact List.flatMap_append
theorem packX_rng {l : List (List Int)} (h : ∀ y ∈ l, ∀ x ∈ y, 0 ≤ x ∧ x ≤ 255) : ∀ x ∈ packX l, 0 ≤ x ∧ x ≤ 255 := by
  intro x hx
  obtain ⟨p, hp, hx⟩ := List.mem_flatMap.1 hx
  exact (List.mem_append.1 hx).elim (leb_bd _ x) (h p hp x)
theorem recs_packX (l : List (List Int)) (h : ∀ x ∈ l, x.length ≤ 4096) : recs (packX l) = l := by
  have h9 := recs_pack (l.map fun x => (⟨none, x.length, 0, x⟩ : CPrt)) (fun p hp => by
    obtain ⟨x, hx, rfl⟩ := List.mem_map.1 hp
    exact h x hx)
  have e1 : (l.map fun x => (⟨none, x.length, 0, x⟩ : CPrt)).map (·.xs) = l := by simp [Function.comp_def]
  rw [← packX_map, e1] at h9
  exact h9
structure SJ (nd half i : Nat) (D : Dk) (at_ : Bool) (fra frb : Nat) (ha hb : Hd) (bsa bsb : List Int) (want : List (List Int)) (gen : Nat) : Prop where
  ok : D.OK nd
  fre : D.Free
  rg : RG D
  m : D.M = []
  fr : (at_ = false ∧ fra = 0 ∧ frb = half) ∨ (at_ = true ∧ fra = half ∧ frb = 0)
  la : LogAt D fra half ha bsa
  lb : LogAt D frb half hb bsb
  ka : HdK ha
  kb : HdK hb
  ser : ha.ser ≤ 2 * i ∧ hb.ser ≤ 2 * i
  ga : genH ha = gen
  gb : genH hb ≤ gen ∧ (at_ = true → genH hb < gen)
  gi : gen ≤ i
  ra : ∀ x ∈ bsa, 0 ≤ x ∧ x ≤ 255
  rb : ∀ x ∈ bsb, 0 ≤ x ∧ x ≤ 255
  pk : bsa = packX want
  w4 : ∀ x ∈ want, x.length ≤ 4096
  cl : D.cl ≤ 400 * i
theorem SJ.mono {nd half i : Nat} {D : Dk} {at_ : Bool} {fra frb : Nat} {ha hb : Hd} {bsa bsb : List Int} {want : List (List Int)} {gen : Nat} (hJ : SJ nd half i D at_ fra frb ha hb bsa bsb want gen) : SJ nd half (i + 1) D at_ fra frb ha hb bsa bsb want gen :=
  ⟨hJ.ok, hJ.fre, hJ.rg, hJ.m, hJ.fr, hJ.la, hJ.lb, hJ.ka, hJ.kb, by have := hJ.ser; omega, hJ.ga, hJ.gb, by have := hJ.gi; omega, hJ.ra, hJ.rb, hJ.pk, hJ.w4, by have := hJ.cl; omega⟩
theorem SJ.new (nd half : Nat) (h : nd ≤ 16384) : SJ nd half 0 (Dk.new nd) false 0 half hdZ hdZ [] [] [] 0 :=
  ⟨Dk.OK.new nd h, ⟨rfl, rfl⟩, RG.new nd, rfl, .inl ⟨rfl, rfl, rfl⟩, LogAt.new nd 0 half, LogAt.new nd half half, hdZ_K, hdZ_K, ⟨by decide, by decide⟩, rfl, ⟨by decide, fun h => by cases h⟩, Nat.le_refl _, by simp, by simp, rfl, by simp, Nat.zero_le _⟩
theorem LogAt.crash {D : Dk} {fr kn : Nat} {h : Hd} {bs : List Int} (hl : LogAt D fr kn h bs) (hk : 3 ≤ kn) (hm : D.M = []) (fate : List Int) : LogAt (D.crash fate) fr kn h bs :=
  hl.cong hk fun j _ => crash_at_nil hm fate _
theorem SJ.crash {nd half i : Nat} {D : Dk} {at_ : Bool} {fra frb : Nat} {ha hb : Hd} {bsa bsb : List Int} {want : List (List Int)} {gen : Nat} (hJ : SJ nd half i D at_ fra frb ha hb bsa bsb want gen) (h3 : 3 ≤ half) (fate : List Int) : SJ nd half i (D.crash fate) at_ fra frb ha hb bsa bsb want gen :=
  ⟨hJ.ok.crash fate, crash_free D fate, hJ.rg.crash fate, rfl, hJ.fr, hJ.la.crash h3 hJ.m fate, hJ.lb.crash h3 hJ.m fate, hJ.ka, hJ.kb, hJ.ser, hJ.ga, hJ.gb, hJ.gi, hJ.ra, hJ.rb, hJ.pk, hJ.w4, hJ.cl⟩
theorem SJ.add {nd half i : Nat} {D : Dk} {at_ : Bool} {fra frb : Nat} {ha hb : Hd} {bsa bsb : List Int} {want : List (List Int)} {gen : Nat} (hJ : SJ nd half i D at_ fra frb ha hb bsa bsb want gen) (h3 : 3 ≤ half) (hn : 2 * half ≤ nd) (hn9 : nd ≤ 600) (hi : i ≤ 100) (l : List (List Int)) (h4 : ∀ x ∈ l, x.length ≤ 4096) (hr : ∀ y ∈ l, ∀ x ∈ y, 0 ≤ x ∧ x ≤ 255) (hroom : bsa.length + (packX l).length ≤ (half - 2) * 64) (h1 : Hd) (hh : h1 = ⟨ha.ser + 1, (bsa ++ packX l).length, ha.nt⟩) (p : Nat) (hp : (p : Int) = h1.ser % 2) :
    (appR fra p h1 bsa (packX l) D).1 = true ∧ SJ nd half (i + 1) (appR fra p h1 bsa (packX l) D).2 at_ fra frb h1 hb (bsa ++ packX l) bsb (want ++ l) gen := by
  have hfr := hJ.fr
  have hser := hJ.ser
  have hcl := hJ.cl
  have hlen := hJ.ok.len
  have hka := hJ.ka.ser
  have hal : (bsa ++ packX l).length = bsa.length + (packX l).length := List.length_append
  have hs1 : h1.ser = ha.ser + 1 := by rw [hh]
  have hc1 : h1.cnt = (bsa ++ packX l).length := by rw [hh]
  have hn1 : h1.nt = ha.nt := by rw [hh]
  have hK : HdK h1 := ⟨⟨by omega, by omega⟩, ⟨by omega, by omega⟩, by rw [hn1]; exact hJ.ka.nt, by rw [hn1]; exact hJ.ka.hi⟩
  have hx : ∀ x ∈ bsa ++ packX l, 0 ≤ x ∧ x ≤ 255 := fun x hx => (List.mem_append.1 hx).elim (hJ.ra x) (packX_rng hr x)
  obtain ⟨k1, k2, k3, k4, k5, k6, k7⟩ := hJ.la.append (h' := h1) (ys := packX l) (by omega) h3 hJ.fre hJ.rg hK hs1 hka.1 hc1 (by omega) hx p hp
  have hat := fun j hj => appR_at (fr := fra) (p := p) (h' := h1) (bs := bsa) (ys := packX l) hJ.fre hJ.rg hK (by omega) hx (by omega) j hj
  exact ⟨k1, appR_OK hJ.ok (by omega) (by omega), k3, k4, k5, hfr, k2, hJ.lb.cong h3 (fun j hj => hat _ (by omega)), hK, hJ.kb, ⟨by omega, by omega⟩, by rw [← hJ.ga]; unfold genH; rw [hn1], hJ.gb, by have := hJ.gi; omega, hx, hJ.rb, by rw [packX_app, ← hJ.pk], fun x hx => (List.mem_append.1 hx).elim (hJ.w4 x) (h4 x), by omega⟩
theorem SJ.clear {nd half i : Nat} {D : Dk} {at_ : Bool} {fra frb : Nat} {ha hb : Hd} {bsa bsb : List Int} {want : List (List Int)} {gen : Nat} (hJ : SJ nd half i D at_ fra frb ha hb bsa bsb want gen) (h3 : 3 ≤ half) (hn : 2 * half ≤ nd) (hi : i ≤ 100) (h1 : Hd) (hh : h1 = ⟨hb.ser + 1, ((0 : Nat) : Int), hb.nt⟩) (p : Nat) (hp : (p : Int) = h1.ser % 2) :
    HdK h1 ∧ (wrAll [(frb + p, secH h1)] D).1 = true ∧ (wrAll [(frb + p, secH h1)] D).2.OK nd ∧ (wrAll [(frb + p, secH h1)] D).2.Free ∧ RG (wrAll [(frb + p, secH h1)] D).2 ∧ (wrAll [(frb + p, secH h1)] D).2.M = [] ∧ LogAt (wrAll [(frb + p, secH h1)] D).2 frb half h1 [] ∧ LogAt (wrAll [(frb + p, secH h1)] D).2 fra half ha bsa ∧ (wrAll [(frb + p, secH h1)] D).2.cl ≤ D.cl + 1 := by
  have hfr := hJ.fr
  have hser := hJ.ser
  have hlen := hJ.ok.len
  have hkb := hJ.kb.ser
  have hs1 : h1.ser = hb.ser + 1 := by rw [hh]
  have hc1 : h1.cnt = ((0 : Nat) : Int) := by rw [hh]
  have hn1 : h1.nt = hb.nt := by rw [hh]
  have hK : HdK h1 := ⟨⟨by omega, by omega⟩, ⟨by omega, by omega⟩, by rw [hn1]; exact hJ.kb.nt, by rw [hn1]; exact hJ.kb.hi⟩
  obtain ⟨hw, hl⟩ := hJ.lb.head (h' := h1) (bs' := []) (by omega) h3 hJ.fre hJ.rg hK hs1 hkb.1 hc1 (by simp) rfl p hp
  have hcw := hw.cl
  simp only [List.length_singleton] at hcw
  exact ⟨hK, hw.ok, wrAll_OK _ _ (fun e he => by simp only [List.mem_singleton] at he; subst he; dsimp only; omega) hJ.ok, hw.free, hw.rg, hw.m, hl, hJ.la.cong h3 (fun j hj => wrH_at hJ.fre (by omega) _ (by omega)), hcw⟩
theorem SJ.compact {nd half i : Nat} {D : Dk} {at_ : Bool} {fra frb : Nat} {ha hb : Hd} {bsa bsb : List Int} {want : List (List Int)} {gen : Nat} (hJ : SJ nd half i D at_ fra frb ha hb bsa bsb want gen) (h3 : 3 ≤ half) (hn : 2 * half ≤ nd) (hn9 : nd ≤ 600) (hi : i ≤ 100) (l : List (List Int)) (h4 : ∀ x ∈ l, x.length ≤ 4096) (hr : ∀ y ∈ l, ∀ x ∈ y, 0 ≤ x ∧ x ≤ 255) (hroom : (packX l).length ≤ (half - 2) * 64) (h1 : Hd) (hh : h1 = ⟨hb.ser + 1, ((0 : Nat) : Int), hb.nt⟩) (p : Nat) (hp : (p : Int) = h1.ser % 2) (h2 : Hd) (hh2 : h2 = ⟨h1.ser + 1, (([] : List Int) ++ packX l).length, ntA ((gen : Int) + 1)⟩) (q : Nat) (hq : (q : Int) = h2.ser % 2) :
    (appR frb q h2 [] (packX l) (wrAll [(frb + p, secH h1)] D).2).1 = true ∧ SJ nd half (i + 1) (appR frb q h2 [] (packX l) (wrAll [(frb + p, secH h1)] D).2).2 (!at_) frb fra h2 ha ([] ++ packX l) bsa l (gen + 1) := by
  obtain ⟨hK1, c1, c2, c3, c4, c5, c6, c7, c8⟩ := hJ.clear h3 hn hi h1 hh p hp
  obtain ⟨D1, hD1⟩ : ∃ D1, D1 = (wrAll [(frb + p, secH h1)] D).2 := ⟨_, rfl⟩
  rw [← hD1] at c2 c3 c4 c5 c6 c7 c8 ⊢
  have hfr := hJ.fr
  have hser := hJ.ser
  have hcl := hJ.cl
  have hgi := hJ.gi
  have hlen := c2.len
  have hkb := hJ.kb.ser
  have hk1 := hK1.ser
  have hal : (([] : List Int) ++ packX l).length = (packX l).length := by rw [List.nil_append]
  have hs1 : h1.ser = hb.ser + 1 := by rw [hh]
  have hs2 : h2.ser = h1.ser + 1 := by rw [hh2]
  have hc2 : h2.cnt = (([] : List Int) ++ packX l).length := by rw [hh2]
  have hn2 : h2.nt = ntA ((gen : Int) + 1) := by rw [hh2]
  have hK : HdK h2 := ⟨⟨by omega, by omega⟩, ⟨by omega, by omega⟩, by rw [hn2]; exact ntA_RB _, by rw [hn2]; exact ntA_hi _⟩
  have hx : ∀ x ∈ ([] : List Int) ++ packX l, 0 ≤ x ∧ x ≤ 255 := by rw [List.nil_append]; exact packX_rng hr
  obtain ⟨k1, k2, k3, k4, k5, k6, k7⟩ := c6.append (h' := h2) (ys := packX l) (by omega) h3 c3 c4 hK hs2 hk1.1 hc2 (by omega) hx q hq
  have hat := fun j hj => appR_at (fr := frb) (p := q) (h' := h2) (bs := []) (ys := packX l) c3 c4 hK (by omega) hx (by omega) j hj
  have hg2 : genH h2 = ((gen + 1 : Nat) : Int) := by unfold genH; rw [hn2, gen_of ⟨by omega, by omega⟩]; omega
  have hfr2 : (!at_) = false ∧ frb = 0 ∧ fra = half ∨ (!at_) = true ∧ frb = half ∧ fra = 0 := by
    rcases hfr with ⟨e1, e2, e3⟩ | ⟨e1, e2, e3⟩
    · exact .inr ⟨by rw [e1]; rfl, e3, e2⟩
    · exact .inl ⟨by rw [e1]; rfl, e3, e2⟩
  exact ⟨k1, appR_OK c2 (by omega) (by omega), k3, k4, k5, hfr2, k2, c7.cong h3 (fun j hj => hat _ (by omega)), hK, hJ.ka, ⟨by omega, by omega⟩, hg2, ⟨by rw [hJ.ga]; omega, fun _ => by rw [hJ.ga]; omega⟩, by omega, hx, hJ.ra, by rw [List.nil_append], h4, by omega⟩
end Go.Proofs.YtgmghkakiocmjaaGreatDoor
