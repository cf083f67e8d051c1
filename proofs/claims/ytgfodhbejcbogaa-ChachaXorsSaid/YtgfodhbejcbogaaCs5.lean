/- ChaCha20: the blocks, one behind the other. -/
import Derived.Test.YtgfodhbejcbogaaCs3
import Derived.Test.YtgfodhbejcbogaaSs8
namespace Go.Proofs.Ytgfodhbejcbogaa
open Go Go.RowKit
set_option linter.unusedVariables false
set_option linter.unusedSimpArgs false
def ctr (c : Int) (i : Nat) : Int := (c + i) % 4294967296
def blkN (kb nb : Nat → Int) (c : Int) : Array Value := outN (rnds 10 (s0 kb nb c)) (s0 kb nb c) 64
def litB (kb nb : Nat → Int) (c : Int) (g : Nat) (i : Nat) : List Chunk := [.blk (g + 2) (.cells #[.int .u32 (ctr c i)] 29 (0, 0)), .blk (g + 1) (.cells (nonA nb) 28 (0, 0)), .blk g (.cells (keyA kb) 23 (0, 0))]
set_option maxRecDepth 100000 in
set_option maxHeartbeats 4000000 in
theorem blocks_f (kb nb : Nat → Int) (c : Int) (w : World) :
    CA Try.prog 15 [.agg (keyA kb), .agg (nonA nb), .int .u32 c] w (Ret (fun g : Nat => .func (.func 21) #[] #[.pointer (some ⟨g, 0, none⟩), .pointer (some ⟨g + 1, 0, none⟩), .pointer (some ⟨g + 2, 0, none⟩)]) []
      (fun g => [.blk (g + 2) (.cells #[.int .u32 c] 29 (0, 0)), .blk (g + 1) (.cells (nonA nb) 28 (0, 0)), .blk g (.cells (keyA kb) 23 (0, 0))]) (fun _ => True) w) := by
  refine enter (L := []) (X := []) Try.func15 rfl Try.ntmps15 rfl rfl (Has.nil _) ?_
  repeat (first | refine c_seq ?_ | (refine c_region (id := 0) ?_; refine st_e ?_; refine e_box_agg rfl rfl ?_; refine st_e ?_; refine e_box_agg rfl rfl ?_; refine st_e ?_; refine e_box_one rfl rfl rfl ?_; refine st_q (by exact q_assign rfl) rfl ?_; refine l_nil ?_) | (refine c_region (id := 1) ?_; refine st_q (by exact q_makeFunc rfl rfl) rfl ?_; refine st_q (by exact q_assign rfl) rfl ?_; refine l_nil ?_) | refine n_then ?_ | refine c_block ?_ | refine c_skip ?_ | refine n_block ?_ | refine c_exit ?_ | refine n_then_exit ?_ | refine n_block_eq ?_ | refine n_block_ne rfl ?_ | refine c_ret ?_ | refine n_then_ret ?_ | refine n_block_ret ?_ | refine c_cond_t rfl ?_ | refine c_cond_f rfl ?_ | refine r_succ ?_ )
  (first | apply r_ret w.heap.size | apply r_end w.heap.size); exact rfl; exact rfl; exact (.tmp rfl .nil); exact rfl; exact (List.Sublist.refl _); exact (new_blk (.inr (by omega)) (new_blk (.inr (by omega)) (new_blk (.inr (by omega)) new_nil))); exact trivial
set_option maxRecDepth 100000 in
set_option maxHeartbeats 4000000 in
theorem blocks_it (kb nb : Nat → Int) (hk : ∀ i, 0 ≤ kb i ∧ kb i ≤ 255) (hn : ∀ i, 0 ≤ nb i ∧ nb i ≤ 255) (c : Int) (g N : Nat) :
    IT Try.prog 21 [.pointer (some ⟨g, 0, none⟩), .pointer (some ⟨g + 1, 0, none⟩), .pointer (some ⟨g + 2, 0, none⟩)] [g + 2, g + 1, g] (litB kb nb c g) (fun i => .agg (blkN kb nb (ctr c i))) N := by
  refine ⟨fun l J Jx hst hsx hfin hrd W hJ0 hL0 => ?_⟩
  refine enter (L := _) (X := []) Try.func21 rfl Try.ntmps21 rfl rfl hL0 ?_
  refine c_block ?_
  refine c_loopI (fun q a w => ∃ i, q = N - i ∧ J i w ∧ Has (litB kb nb c g i) w ∧ Agr 13 [(0, .func (.yield l) #[] #[]), (1, .pointer (some ⟨g, 0, none⟩)), (2, .pointer (some ⟨g + 1, 0, none⟩)), (3, .pointer (some ⟨g + 2, 0, none⟩))] a) N ?_ ?_
  · intro a w hs
    exact ⟨0, rfl, hst 0 _ _ hJ0 (hs.ch.mono (by simp)), hs.has, hs.agr⟩
  · rintro q a w ⟨i, rfl, hJ, hH, hA⟩
    have hlt := hfin i w hJ
    refine rebase (X := [g + 2, g + 1, g]) hA (show Has [.blk (g + 2) (.cells #[.int .u32 (ctr c i)] 29 (0, 0)), .blk (g + 1) (.cells (nonA nb) 28 (0, 0)), .blk g (.cells (keyA kb) 23 (0, 0))] w from hH) ?_
    refine c_seq ?_
    refine c_seq ?_
    refine c_region (id := 0) ?_; refine st_q (by exact q_move rfl) rfl ?_; refine st_q (by (first | exact q_load_blk rfl (by (repeat (first | exact List.Mem.head _ | apply List.Mem.tail))) (by first | rfl | assumption) | (refine q_load_row rfl ?_ ?_ <;> assumption))) rfl ?_; refine st_q (by (first | exact q_load_blk rfl (by (repeat (first | exact List.Mem.head _ | apply List.Mem.tail))) (by first | rfl | assumption) | (refine q_load_row rfl ?_ ?_ <;> assumption))) rfl ?_; refine st_q (by exact q_load rfl (by (first | exact Rd.blkn (by (repeat (first | exact List.Mem.head _ | apply List.Mem.tail))) (by first | rfl | assumption) | exact Rd.sln (by (repeat (first | exact List.Mem.head _ | apply List.Mem.tail))) (by first | rfl | assumption) | exact Rd.oldn (by assumption) (by first | rfl | assumption) (by simp) | exact Rd.old0 (by assumption) (by simp)))) rfl ?_; refine st_e ?_; refine e_callp rfl rfl (by kernel_rfl) rfl (fun w hC hm hL => block_c kb nb hk hn _ w) ?_; intro m' hm'
    refine st_yield rfl rfl rfl rfl (Pt := fun _ W' => J (i + 1) W' ∧ Has (litB kb nb c g i) W') (Pf := fun _ W' => Jx W') ?_ ?_ ?_
    · intro w1 hC hL1
      exact hrd i w1 (hst i _ _ hJ hC) hL1
    · rintro w1 w2 a2 hC hL1 hA2 ⟨hJ2, hH2⟩
      refine rebase (T := (10, .bool true) :: [(0, .func (.yield l) #[] #[]), (1, .pointer (some ⟨g, 0, none⟩)), (2, .pointer (some ⟨g + 1, 0, none⟩)), (3, .pointer (some ⟨g + 2, 0, none⟩))]) (X := [g + 2, g + 1, g]) (hA2.sub ⟨rfl, rfl, rfl, rfl, rfl, trivial⟩) (show Has [.blk (g + 2) (.cells #[.int .u32 (ctr c i)] 29 (0, 0)), .blk (g + 1) (.cells (nonA nb) 28 (0, 0)), .blk g (.cells (keyA kb) 23 (0, 0))] w2 from hH2) ?_
      refine l_nil ?_
      repeat (first | refine c_seq ?_ | (refine c_region (id := 1) ?_; refine st_q (by exact q_load rfl (by (first | exact Rd.blkn (by (repeat (first | exact List.Mem.head _ | apply List.Mem.tail))) (by first | rfl | assumption) | exact Rd.sln (by (repeat (first | exact List.Mem.head _ | apply List.Mem.tail))) (by first | rfl | assumption) | exact Rd.oldn (by assumption) (by first | rfl | assumption) (by simp) | exact Rd.old0 (by assumption) (by simp)))) rfl ?_; refine st_q (by exact q_add32 rfl rfl) rfl ?_; refine st_e0 ?_; (first | refine e_store1l rfl rfl rfl (by (repeat (first | exact List.Mem.head _ | apply List.Mem.tail))) (by first | (simp only [setL]; try exact rfl) | exact rfl) (by (repeat (first | exact Pl.here | apply Pl.there))) rfl (by first | (left; simp; done) | (right; omega)) ?_ | refine e_store1 rfl rfl rfl (by (repeat (first | exact Pl.here | apply Pl.there))) (by first | exact lt_of_blt rfl | omega | (simp only [Array.size_setIfInBounds, setA_size]; omega)) (by first | (left; simp; done) | (right; omega)) ?_ | refine e_store_sl rfl rfl rfl (by (repeat (first | exact Pl.here | apply Pl.there))) (by omega) (by first | (left; simp; done) | (right; omega)) ?_); refine l_nil ?_) | refine n_then ?_ | refine c_block ?_ | refine c_skip ?_ | refine n_block ?_ | refine c_exit ?_ | refine n_then_exit ?_ | refine n_block_eq ?_ | refine n_block_ne rfl ?_ | refine c_ret ?_ | refine n_then_ret ?_ | refine n_block_ret ?_ | refine c_cond_t rfl ?_ | refine c_cond_f rfl ?_ | refine r_succ ?_ )
      refine chg (L' := litB kb nb c g (i + 1)) (by unfold litB; rw [show (ctr c i + 1) % 4294967296 = ctr c (i + 1) from by unfold ctr; omega]) ?_
      intro a3 w3 hs3
      exact ⟨⟨N - (i + 1), by omega, i + 1, rfl, hst _ _ _ hJ2 hs3.ch, hs3.has, hs3.agr.sub ⟨rfl, rfl, rfl, rfl, trivial⟩⟩⟩
    · rintro w1 w2 a2 hC hL1 hA2 hJ2
      refine rebase (T := (10, .bool false) :: [(0, .func (.yield l) #[] #[]), (1, .pointer (some ⟨g, 0, none⟩)), (2, .pointer (some ⟨g + 1, 0, none⟩)), (3, .pointer (some ⟨g + 2, 0, none⟩))]) (X := [g + 2, g + 1, g]) (hA2.sub ⟨rfl, rfl, rfl, rfl, rfl, trivial⟩) (Has.nil w2) ?_
      refine l_nil ?_
      repeat (first | refine c_seq ?_ | (refine c_region (id := 1) ?_; refine st_q (by exact q_load rfl (by (first | exact Rd.blkn (by (repeat (first | exact List.Mem.head _ | apply List.Mem.tail))) (by first | rfl | assumption) | exact Rd.sln (by (repeat (first | exact List.Mem.head _ | apply List.Mem.tail))) (by first | rfl | assumption) | exact Rd.oldn (by assumption) (by first | rfl | assumption) (by simp) | exact Rd.old0 (by assumption) (by simp)))) rfl ?_; refine st_q (by exact q_add32 rfl rfl) rfl ?_; refine st_e0 ?_; (first | refine e_store1l rfl rfl rfl (by (repeat (first | exact List.Mem.head _ | apply List.Mem.tail))) (by first | (simp only [setL]; try exact rfl) | exact rfl) (by (repeat (first | exact Pl.here | apply Pl.there))) rfl (by first | (left; simp; done) | (right; omega)) ?_ | refine e_store1 rfl rfl rfl (by (repeat (first | exact Pl.here | apply Pl.there))) (by first | exact lt_of_blt rfl | omega | (simp only [Array.size_setIfInBounds, setA_size]; omega)) (by first | (left; simp; done) | (right; omega)) ?_ | refine e_store_sl rfl rfl rfl (by (repeat (first | exact Pl.here | apply Pl.there))) (by omega) (by first | (left; simp; done) | (right; omega)) ?_); refine l_nil ?_) | refine n_then ?_ | refine c_block ?_ | refine c_skip ?_ | refine n_block ?_ | refine c_exit ?_ | refine n_then_exit ?_ | refine n_block_eq ?_ | refine n_block_ne rfl ?_ | refine c_ret ?_ | refine n_then_ret ?_ | refine n_block_ret ?_ | refine c_cond_t rfl ?_ | refine c_cond_f rfl ?_ | refine r_succ ?_ )
      intro a3 w3 hs3
      exact ⟨hs3.agr.defers.trans rfl, _, results_of rfl .nil hs3.agr hs3.ch hs3.has, ⟨_, rfl⟩, hsx _ _ hJ2 hs3.ch⟩
end Go.Proofs.Ytgfodhbejcbogaa
