/- pad: Pad and Unpad, both. -/
import Derived.Test.YtlcckgimagllaaaDoorPd1
namespace Go.Proofs.YtlcckgimagllaaaDoor
open Go Go.RowKit
set_option linter.unusedVariables false
set_option linter.unusedSimpArgs false
def padX (xs : List Int) : List Int := xs ++ [128] ++ List.replicate (bk xs.length - (xs.length + 1)) 0
theorem padX_len (xs : List Int) : (padX xs).length = max (xs.length + 1) (bk xs.length) := by unfold padX; simp; omega
theorem padX_bd {xs : List Int} (h : ∀ x ∈ xs, 0 ≤ x ∧ x ≤ 255) : ∀ x ∈ padX xs, 0 ≤ x ∧ x ≤ 255 := by
  intro x hx
  unfold padX at hx
  rcases List.mem_append.1 hx with hx | hx
  · rcases List.mem_append.1 hx with hx | hx
    · exact h x hx
    · simp only [List.mem_singleton] at hx; omega
  · rw [List.eq_of_mem_replicate hx]; omega
/-- What is unpadded: nothing, or the text. -/
def upOk (xs : List Int) : Prop := trimL xs xs.length ≠ 0 ∧ xs.getD (trimL xs xs.length - 1) 0 = 128 ∧ bk (trimL xs xs.length - 1) = xs.length
theorem getD_app_r {A B : List Int} {i : Nat} (h : A.length ≤ i) : (A ++ B).getD i 0 = B.getD (i - A.length) 0 := by
  rw [List.getD_eq_getElem?_getD, List.getElem?_append_right h, List.getD_eq_getElem?_getD]
theorem getD_rep (n i : Nat) : (List.replicate n (0 : Int)).getD i 0 = 0 := by
  rw [List.getD_eq_getElem?_getD, List.getElem?_replicate]; split <;> rfl
theorem trim_of {xs : List Int} {n : Nat} (hn : xs.getD n 0 ≠ 0) : ∀ m, n < m → (∀ i, n < i → i < m → xs.getD i 0 = 0) → trimL xs m = n + 1
  | 0, h, _ => by omega
  | m + 1, h, hz => by
    unfold trimL
    by_cases hm : n = m
    · subst hm; rw [if_neg hn]
    · rw [if_pos (hz m (by omega) (by omega)), trim_of hn m (by omega) (fun i h1 h2 => hz i h1 (by omega))]
theorem pad_trim (ys : List Int) : trimL (padX ys) (padX ys).length = ys.length + 1 ∧ (padX ys).getD ys.length 0 = 128 := by
  have h1 : (padX ys).getD ys.length 0 = 128 := by
    unfold padX
    rw [List.append_assoc, getD_app_r (Nat.le_refl _), Nat.sub_self]; rfl
  refine ⟨trim_of (by rw [h1]; omega) _ (by rw [padX_len]; omega) (fun i h2 h3 => ?_), h1⟩
  unfold padX
  rw [getD_app_r (by simp; omega), getD_rep]
theorem pad_same {xs : List Int} {n : Nat} (hn : n < xs.length) (h1 : xs.getD n 0 = 128) (hz : ∀ i, n < i → i < xs.length → xs.getD i 0 = 0) (hb : bk n = xs.length) : padX (xs.take n) = xs := by
  have htl : (xs.take n).length = n := by rw [List.length_take]; omega
  unfold padX
  rw [htl, hb]
  have e : xs = xs.take n ++ xs.drop n := (List.take_append_drop n xs).symm
  conv => rhs; rw [e]
  rw [List.append_assoc]
  congr 1
  apply List.ext_getElem
  · simp; omega
  · intro i h2 h3
    have hi : n + i < xs.length := by simp at h3; omega
    rw [List.getElem_drop]
    have hg : xs[n + i] = xs.getD (n + i) 0 := by rw [List.getD_eq_getElem?_getD, List.getElem?_eq_getElem hi]; rfl
    rw [hg]
    rcases i with _ | i
    · show (128 : Int) = xs.getD n 0; exact h1.symm
    · rw [hz (n + (i + 1)) (by omega) hi]
      simp
theorem pad_copyB (l : List Int) (B : Nat) (h : l.length ≤ B) : setA (List.replicate B (Value.int .u8 0)).toArray 0 (l.map (Value.int .u8)) = ((l ++ List.replicate (B - l.length) 0).map (Value.int .u8)).toArray := by
  apply Array.ext'
  rw [setA_toList _ _ _ (by simp; omega)]
  show (List.replicate B (Value.int .u8 0)).take 0 ++ l.map (Value.int .u8) ++ (List.replicate B (Value.int .u8 0)).drop (0 + (l.map (Value.int .u8)).length) = (l ++ List.replicate (B - l.length) 0).map (Value.int .u8)
  rw [List.take_zero, List.nil_append, List.map_append, Nat.zero_add, List.length_map, List.drop_replicate, List.map_replicate]
theorem pad_set (xs : List Int) (B : Nat) (h : xs.length < B) (hb : bk xs.length = B) : ((xs ++ List.replicate (B - xs.length) 0).map (Value.int .u8)).set xs.length (.int .u8 128) = (padX xs).map (Value.int .u8) := by
  obtain ⟨q, hq⟩ : ∃ q, B - xs.length = q + 1 := ⟨B - xs.length - 1, by omega⟩
  unfold padX
  rw [hb, hq, show B - (xs.length + 1) = q by omega]
  simp [List.map_append, List.set_append_right, List.replicate_succ]
set_option maxRecDepth 100000 in
set_option maxHeartbeats 4000000 in
theorem padno_c (a : Option Addr) (len cap : Nat) (xs : List Int) (hxl : xs.length = len) (hxb : ∀ x ∈ xs, 0 ≤ x ∧ x ≤ 255) (hcap : len ≤ cap) (hl9 : len ≤ 100000) (w : World) (hs : SlE (Value.int .u8) w a xs) (hB : bk len = 0) : CA Tryd.prog 6 [.slice a len cap] w (RV (.tuple #[.slice none 0 0, .int .i64 3]) w) := by
  refine enter (L := []) (X := []) Tryd.func6 rfl Tryd.ntmps6 rfl rfl (Has.nil _) ?_
  repeat (first | refine c_seq ?_ | (refine c_region (id := 0) ?_; refine st_q (by exact q_assign rfl) rfl ?_; refine st_q (by exact q_assign rfl) rfl ?_; refine l_nil ?_) | (refine c_region (id := 1) ?_; refine st_q (by exact q_move rfl) rfl ?_; refine st_q (by (first | exact q_len_sl rfl | exact q_len_str rfl)) rfl ?_; refine st_e ?_; refine e_callp rfl rfl (by kernel_rfl) rfl (fun w hC hm hL => by have h9 := bucket_c len (by omega) w; rw [hB, if_pos rfl] at h9; exact h9) ?_; intro m' hm'; refine st_q (by exact q_move rfl) rfl ?_; refine st_q (by exact q_extractn rfl rfl) rfl ?_; refine st_q (by exact q_extractn rfl rfl) rfl ?_; refine st_q (by exact q_assign rfl) rfl ?_; refine st_q (by exact q_assign rfl) rfl ?_; refine l_nil ?_) | (refine c_region (id := 2) ?_; refine st_q (by exact q_move rfl) rfl ?_; refine st_q (by (first | exact Qt.cast (congrArg Value.bool (bne_iff_ne.2 (by omega))) (q_neq rfl rfl) | exact Qt.cast (congrArg Value.bool (bne_eq_false_iff_eq.2 (by omega))) (q_neq rfl rfl))) rfl ?_; refine l_nil ?_) | (refine c_region (id := 3) ?_; refine st_q (by exact q_move rfl) rfl ?_; refine st_q (by exact q_assign rfl) rfl ?_; refine st_q (by exact q_assign rfl) rfl ?_; refine l_nil ?_) | refine n_then ?_ | refine c_block ?_ | refine c_skip ?_ | refine n_block ?_ | refine c_exit ?_ | refine n_then_exit ?_ | refine n_block_eq ?_ | refine n_block_ne rfl ?_ | refine c_ret ?_ | refine n_then_ret ?_ | refine n_block_ret ?_ | refine c_cond_t rfl ?_ | refine c_cond_f rfl ?_ | refine r_succ ?_ )
  (first | apply r_ret () | apply r_end ()); exact rfl; exact rfl; exact (.tmp rfl (.tmp rfl .nil)); exact rfl; exact (List.nil_sublist _); exact new_nil; exact trivial
set_option maxRecDepth 100000 in
set_option maxHeartbeats 4000000 in
theorem pad_c (a : Option Addr) (len cap : Nat) (xs : List Int) (hxl : xs.length = len) (hxb : ∀ x ∈ xs, 0 ≤ x ∧ x ≤ 255) (hcap : len ≤ cap) (hl9 : len ≤ 100000) (w : World) (hs : SlE (Value.int .u8) w a xs) (B : Nat) (hB : bk len = B) (hB0 : B ≠ 0) : CA Tryd.prog 6 [.slice a len cap] w (Ret (fun g : Nat => .tuple #[.slice (some ⟨g, 0, none⟩) B B, .int .i64 0]) [] (fun g => [.sl (some ⟨g, 0, none⟩) B 5 1 ((padX xs).map (Value.int .u8))]) (fun _ => True) w) := by
  have hbs := bk_spec len
  have hpl : (padX xs).length = B := by rw [padX_len, hxl]; omega
  refine enter (L := []) (X := []) Tryd.func6 rfl Tryd.ntmps6 rfl rfl (Has.nil _) ?_
  repeat (first | refine c_seq ?_ | (refine c_region (id := 0) ?_; refine st_q (by exact q_assign rfl) rfl ?_; refine st_q (by exact q_assign rfl) rfl ?_; refine l_nil ?_) | (refine c_region (id := 1) ?_; refine st_q (by exact q_move rfl) rfl ?_; refine st_q (by (first | exact q_len_sl rfl | exact q_len_str rfl)) rfl ?_; refine st_e ?_; refine e_callp rfl rfl (by kernel_rfl) rfl (fun w hC hm hL => by have h9 := bucket_c len (by omega) w; rw [hB, if_neg hB0] at h9; exact h9) ?_; intro g6 hg6; refine st_q (by exact q_move rfl) rfl ?_; refine st_q (by exact q_extractn rfl rfl) rfl ?_; refine st_q (by exact q_extractn rfl rfl) rfl ?_; refine st_q (by exact q_assign rfl) rfl ?_; refine st_q (by exact q_assign rfl) rfl ?_; refine l_nil ?_) | (refine c_region (id := 2) ?_; refine st_q (by exact q_move rfl) rfl ?_; refine st_q (by (first | exact Qt.cast (congrArg Value.bool (bne_iff_ne.2 (by omega))) (q_neq rfl rfl) | exact Qt.cast (congrArg Value.bool (bne_eq_false_iff_eq.2 (by omega))) (q_neq rfl rfl))) rfl ?_; refine l_nil ?_) | refine n_then ?_ | refine c_block ?_ | refine c_skip ?_ | refine n_block ?_ | refine c_exit ?_ | refine n_then_exit ?_ | refine n_block_eq ?_ | refine n_block_ne rfl ?_ | refine c_ret ?_ | refine n_then_ret ?_ | refine n_block_ret ?_ | refine c_cond_t rfl ?_ | refine c_cond_f rfl ?_ | refine r_succ ?_ )
  repeat (first | refine c_seq ?_ | (refine c_region (id := 4) ?_; refine st_q (by exact q_move rfl) rfl ?_; refine st_e ?_; (first | refine e_make1n rfl rfl rfl (by omega) (by omega) (by omega) ?_ | refine e_make1 rfl rfl rfl (by omega) (by omega) (by omega) (by omega) ?_); refine st_q (by exact q_assign rfl) rfl ?_; refine l_nil ?_) | refine n_then ?_ | refine c_block ?_ | refine c_skip ?_ | refine n_block ?_ | refine c_exit ?_ | refine n_then_exit ?_ | refine n_block_eq ?_ | refine n_block_ne rfl ?_ | refine c_ret ?_ | refine n_then_ret ?_ | refine n_block_ret ?_ | refine c_cond_t rfl ?_ | refine c_cond_f rfl ?_ | refine r_succ ?_ )
  refine slblk (cap := B) (xs := List.replicate B (Value.int .u8 0)) (by simp) (by (repeat (first | exact Pl.here | apply Pl.there))) ?_
  by_cases h0 : len = 0
  · subst h0
    have hx0 : xs = [] := List.eq_nil_of_length_eq_zero hxl
    have e0 : (List.replicate B (Value.int .u8 0)) = (xs ++ List.replicate (B - xs.length) 0).map (Value.int .u8) := by rw [hx0]; simp
    rw [e0]
    repeat (first | refine c_seq ?_ | (refine c_region (id := 5) ?_; refine st_q (by exact q_move rfl) rfl ?_; refine st_q (by exact q_move rfl) rfl ?_; refine st_q (by exact q_move rfl) rfl ?_; refine st_e ?_; refine e_copy_none rfl rfl rfl (by omega) ?_; refine st_q (by exact q_indexAddr_sl (o' := xs.length) rfl rfl (by omega) (by omega) (by omega)) rfl ?_; refine st_e0 ?_; (refine e_store1l (l := (xs ++ List.replicate (B - xs.length) 0).map (Value.int .u8)) (l' := (padX xs).map (Value.int .u8)) rfl rfl rfl (by (repeat (first | exact List.Mem.head _ | apply List.Mem.tail))) (by rw [setL_eq]; exact pad_set xs B (by omega) (by rw [hxl]; exact hB)) (by (repeat (first | exact Pl.here | apply Pl.there))) (by simp; omega) (by first | (left; simp; done) | (right; omega)) ?_); refine l_nil ?_) | (refine c_region (id := 6) ?_; refine st_q (by exact q_move rfl) rfl ?_; refine st_q (by exact q_assign rfl) rfl ?_; refine st_q (by exact q_assign rfl) rfl ?_; refine l_nil ?_) | refine n_then ?_ | refine c_block ?_ | refine c_skip ?_ | refine n_block ?_ | refine c_exit ?_ | refine n_then_exit ?_ | refine n_block_eq ?_ | refine n_block_ne rfl ?_ | refine c_ret ?_ | refine n_then_ret ?_ | refine n_block_ret ?_ | refine c_cond_t rfl ?_ | refine c_cond_f rfl ?_ | refine r_succ ?_ )
    refine blksl (cap := B) (xs := (padX xs).map (Value.int .u8)) (by rw [List.length_map]; exact hpl) (by (repeat (first | exact Pl.here | apply Pl.there))) ?_
    (first | apply r_ret g6 | apply r_end g6); exact rfl; exact rfl; exact (.tmp rfl (.tmp rfl .nil)); exact rfl; exact (by exact (by (repeat (first | exact List.Sublist.slnil | apply List.Sublist.cons_cons | exact List.Sublist.refl _ | apply List.Sublist.cons)))); exact (new_sl (by simp [Chunk.foot]; omega) new_nil); exact trivial
  · obtain ⟨g2, o, rfl, hOk⟩ := hs.get (i := 0) (by omega)
    repeat (first | refine c_seq ?_ | (refine c_region (id := 5) ?_; refine st_q (by exact q_move rfl) rfl ?_; refine st_q (by exact q_move rfl) rfl ?_; refine st_q (by exact q_move rfl) rfl ?_; refine st_e ?_; refine e_copy (news := xs.map (Value.int .u8)) (k := len) rfl rfl rfl (RdN.old hOk (by simp)) (by simp; omega) (allOne_u8c _) (by (repeat (first | exact Pl.here | apply Pl.there))) (by simp; omega) (by first | (left; simp; done) | (right; omega)) (by simp [hxl]) ?_; rw [pad_copyB xs B (by omega)]; refine st_q (by exact q_indexAddr_sl (o' := xs.length) rfl rfl (by omega) (by omega) (by omega)) rfl ?_; refine st_e0 ?_; (refine e_store1l (l := (xs ++ List.replicate (B - xs.length) 0).map (Value.int .u8)) (l' := (padX xs).map (Value.int .u8)) rfl rfl rfl (by (repeat (first | exact List.Mem.head _ | apply List.Mem.tail))) (by rw [setL_eq]; exact pad_set xs B (by omega) (by rw [hxl]; exact hB)) (by (repeat (first | exact Pl.here | apply Pl.there))) (by simp; omega) (by first | (left; simp; done) | (right; omega)) ?_); refine l_nil ?_) | refine n_then ?_ | refine c_block ?_ | refine c_skip ?_ | refine n_block ?_ | refine c_exit ?_ | refine n_then_exit ?_ | refine n_block_eq ?_ | refine n_block_ne rfl ?_ | refine c_ret ?_ | refine n_then_ret ?_ | refine n_block_ret ?_ | refine c_cond_t rfl ?_ | refine c_cond_f rfl ?_ | refine r_succ ?_ )
    repeat (first | refine c_seq ?_ | (refine c_region (id := 6) ?_; refine st_q (by exact q_move rfl) rfl ?_; refine st_q (by exact q_assign rfl) rfl ?_; refine st_q (by exact q_assign rfl) rfl ?_; refine l_nil ?_) | refine n_then ?_ | refine c_block ?_ | refine c_skip ?_ | refine n_block ?_ | refine c_exit ?_ | refine n_then_exit ?_ | refine n_block_eq ?_ | refine n_block_ne rfl ?_ | refine c_ret ?_ | refine n_then_ret ?_ | refine n_block_ret ?_ | refine c_cond_t rfl ?_ | refine c_cond_f rfl ?_ | refine r_succ ?_ )
    refine blksl (cap := B) (xs := (padX xs).map (Value.int .u8)) (by rw [List.length_map]; exact hpl) (by (repeat (first | exact Pl.here | apply Pl.there))) ?_
    (first | apply r_ret g6 | apply r_end g6); exact rfl; exact rfl; exact (.tmp rfl (.tmp rfl .nil)); exact rfl; exact (by exact (by (repeat (first | exact List.Sublist.slnil | apply List.Sublist.cons_cons | exact List.Sublist.refl _ | apply List.Sublist.cons)))); exact (new_sl (by simp [Chunk.foot]; omega) new_nil); exact trivial
end Go.Proofs.YtlcckgimagllaaaDoor
