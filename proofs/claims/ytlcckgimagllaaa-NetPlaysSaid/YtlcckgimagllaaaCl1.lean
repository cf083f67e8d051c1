/- bytes.Clone. -/
import Derived.Test.YtlcckgimagllaaaSs17
import Derived.Test.YtlcckgimagllaaaTy
namespace Go.Proofs.Ytlcckgimagllaaa
open Go Go.RowKit
set_option linter.unusedVariables false
set_option linter.unusedSimpArgs false
theorem allOne_u8c (l : List Int) : allOne (l.map (Value.int .u8)) = true := by
  induction l with
  | nil => rfl
  | cons x l ih => simpa [allOne, Value.oneCell'] using ih
set_option maxRecDepth 100000 in
set_option maxHeartbeats 4000000 in
theorem clone_c (a : Option Addr) (len cap : Nat) (xs : List Int) (hxl : xs.length = len) (hbig : len ≤ 100000000) (w : World) (hs : SlE (Value.int .u8) w a xs) :
    CA Try.prog 45 [.slice a len cap] w (RLe (Value.int .u8) 5 (fun zs => zs = xs) w) := by
  rcases a with _ | p
  · have hx0 : xs = [] := by
      rcases hs.h with h9 | ⟨g, o, e, _⟩
      · exact h9
      · cases e
    refine enter (L := []) (X := []) Try.func45 rfl Try.ntmps45 rfl rfl (Has.nil _) ?_
    repeat (first | refine c_seq ?_ | (refine c_region (id := 0) ?_; refine st_q (by exact q_assign rfl) rfl ?_; refine l_nil ?_) | (refine c_region (id := 1) ?_; refine st_q (by exact q_move rfl) rfl ?_; refine st_q (by exact q_eql_nil rfl rfl) rfl ?_; refine l_nil ?_) | (refine c_region (id := 2) ?_; refine st_q (by exact q_assign rfl) rfl ?_; refine l_nil ?_) | refine n_then ?_ | refine c_block ?_ | refine c_skip ?_ | refine n_block ?_ | refine c_exit ?_ | refine n_then_exit ?_ | refine n_block_eq ?_ | refine n_block_ne rfl ?_ | refine c_ret ?_ | refine n_then_ret ?_ | refine n_block_ret ?_ | refine c_cond_t rfl ?_ | refine c_cond_f rfl ?_ | refine r_succ ?_ )
    refine add_nil 5 1 ?_
    (first | apply r_ret (none, 0, []) | apply r_end (none, 0, [])); exact rfl; exact rfl; exact (.tmp rfl .nil); exact rfl; exact (by exact (by (repeat (first | exact List.Sublist.slnil | apply List.Sublist.cons_cons | apply List.Sublist.cons)))); exact (new_sl (OS.nil [] w.heap.size).newc new_nil); exact ⟨by simp, hx0.symm⟩
  · refine enter (L := []) (X := []) Try.func45 rfl Try.ntmps45 rfl rfl (Has.nil _) ?_
    repeat (first | refine c_seq ?_ | (refine c_region (id := 0) ?_; refine st_q (by exact q_assign rfl) rfl ?_; refine l_nil ?_) | (refine c_region (id := 1) ?_; refine st_q (by exact q_move rfl) rfl ?_; refine st_q (by exact q_eql_nil rfl rfl) rfl ?_; refine l_nil ?_) | (refine c_region (id := 3) ?_; refine st_e ?_; refine e_buildSlice0 rfl ?_; refine st_q (by exact q_move rfl) rfl ?_; refine st_e ?_; refine e_appL (Value.int .u8) [] xs rfl rfl rfl (by (repeat (first | exact Rm.here | apply Rm.there))) hs.rdN rfl hxl ⟨Nat.le_refl _, by omega, .inr ⟨_, rfl⟩, by simp [Chunk.foot]⟩ (allOne_u8c _) (by omega) (by omega) ?_; intro b1 cap1 m1 ho1 hm1; refine st_q (by exact q_assign rfl) rfl ?_; refine l_nil ?_) | refine n_then ?_ | refine c_block ?_ | refine c_skip ?_ | refine n_block ?_ | refine c_exit ?_ | refine n_then_exit ?_ | refine n_block_eq ?_ | refine n_block_ne rfl ?_ | refine c_ret ?_ | refine n_then_ret ?_ | refine n_block_ret ?_ | refine c_cond_t rfl ?_ | refine c_cond_f rfl ?_ | refine r_succ ?_ )
    rw [Nat.zero_add, ← hxl] at ho1 ⊢
    (first | apply r_ret (b1, cap1, xs) | apply r_end (b1, cap1, xs)); exact rfl; exact rfl; exact (.tmp rfl .nil); exact rfl; exact (by exact (by (repeat (first | exact List.Sublist.slnil | apply List.Sublist.cons_cons | apply List.Sublist.cons)))); exact (new_sl ho1.newc new_nil); exact ⟨by have h9 := ho1.ret; exact h9, rfl⟩
end Go.Proofs.Ytlcckgimagllaaa
