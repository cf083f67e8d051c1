/- Poly: a code of any parts. -/
import Derived.Test.YtbkdopmnaopppaaPo18
import Derived.Test.YtbkdopmnaopppaaPo10
import Derived.Test.YtbkdopmnaopppaaSs11
namespace Go.Proofs.Ytbkdopmnaopppaa
open Go Go.RowKit
set_option linter.unusedVariables false
set_option linter.unusedSimpArgs false
structure Prt where
  a : Option Addr
  len : Nat
  cap : Nat
  xs : List Int
def Prt.v (p : Prt) : Value := .slice p.a p.len p.cap
structure Prt.Ok (w : World) (p : Prt) : Prop where
  s : SlE (Value.int .u8) w p.a p.xs
  l : p.xs.length = p.len
  c : p.len ≤ p.cap
  r : ∀ x ∈ p.xs, 0 ≤ x ∧ x ≤ 255
def joined (ps : List Prt) : List Int := ps.flatMap (·.xs)
def off (ps : List Prt) (i : Nat) : Nat := (joined (ps.take i)).length
theorem part_at {ps : List Prt} {i : Nat} {p : Prt} (h : ps[i]? = some p) (hl : p.xs.length = p.len) : (joined ps).drop (off ps i) = p.xs ++ joined (ps.drop (i + 1)) ∧ off ps (i + 1) = off ps i + p.len ∧ off ps (i + 1) ≤ (joined ps).length := by
  have hi : i < ps.length := (List.getElem?_eq_some_iff.1 h).1
  have hp : ps[i] = p := (List.getElem?_eq_some_iff.1 h).2
  have e0 : ps.take (i + 1) = ps.take i ++ [p] := by rw [List.take_add_one, h]; rfl
  have e1 : joined ps = joined (ps.take i) ++ (p.xs ++ joined (ps.drop (i + 1))) := by
    have h3 : joined (ps.take (i + 1)) = joined (ps.take i) ++ p.xs := by rw [e0]; simp [joined]
    have h2 : joined ps = joined (ps.take (i + 1)) ++ joined (ps.drop (i + 1)) := by
      unfold joined
      rw [← List.flatMap_append, List.take_append_drop]
    rw [h2, h3, List.append_assoc]
  have e2 : off ps (i + 1) = off ps i + p.len := by
    unfold off
    rw [e0]
    simp [joined, hl]
  refine ⟨?_, e2, ?_⟩
  · rw [e1]; unfold off; rw [List.drop_left]
  · rw [e2, e1]; simp [off]; omega
theorem off_all (ps : List Prt) : off ps ps.length = (joined ps).length := by unfold off; rw [List.take_length]
/-- What is held of a block: its first c bytes. -/
structure HP (H : Array Value) (f : Nat → Int) (c : Nat) : Prop where
  size : H.size = 16
  pre : H.toList.take c = (List.range c).map fun q => Value.int .u8 (f q)
theorem HP.copy {H : Array Value} {f : Nat → Int} {c n : Nat} (h : HP H f c) (hc : c + n ≤ 16) : HP (setA H c ((List.range n).map fun q => Value.int .u8 (f (c + q)))) f (c + n) := by
  refine ⟨by rw [setA_size]; exact h.size, ?_⟩
  rw [setA_toList _ _ _ (by rw [List.length_map, List.length_range, h.size]; exact hc), h.pre]
  rw [List.take_append_of_le_length (by simp), List.take_of_length_le (by simp), List.range_add, List.map_append, List.map_map]
  rfl
theorem HP.set0 {H : Array Value} {f : Nat → Int} {n : Nat} (h : H.size = 16) (hn : n ≤ 16) : HP (setA H 0 ((List.range n).map fun q => Value.int .u8 (f q))) f n := by
  have h0 : HP H f 0 := ⟨h, by simp⟩
  have := h0.copy (n := n) (by omega)
  simpa using this
theorem HP.all {H : Array Value} {f : Nat → Int} (h : HP H f 16) : (H.toList.drop 0).take 16 = [.int .u8 (f 0), .int .u8 (f 1), .int .u8 (f 2), .int .u8 (f 3), .int .u8 (f 4), .int .u8 (f 5), .int .u8 (f 6), .int .u8 (f 7), .int .u8 (f 8), .int .u8 (f 9), .int .u8 (f 10), .int .u8 (f 11), .int .u8 (f 12), .int .u8 (f 13), .int .u8 (f 14), .int .u8 (f 15)] := by
  rw [List.drop_zero, h.pre]; rfl
theorem seg {X : List Int} {d n k : Nat} (h : d + n ≤ X.length) (hk : n ≤ k) : (((X.drop d).take k).map (Value.int .u8)).take n = (List.range n).map fun q => Value.int .u8 (X.getD (d + q) 0) := by
  apply List.ext_getElem
  · simp; omega
  · intro i h1 h2
    have hi : i < n := by simpa using h2
    simp only [List.getElem_take, List.getElem_drop, List.getElem_map, List.getElem_range]
    rw [List.getD_eq_getElem?_getD, List.getElem?_eq_getElem (by omega), Option.getD_some]
theorem fq_c (X : List Int) (d : Nat) (q : Nat) : fq X (d / 16) (d % 16 + q) = X.getD (d + q) 0 := by
  unfold fq
  congr 1
  omega
/-- What is left of the part, at the block j. -/
structure Left (w : World) (X : List Int) (dE : Nat) (z : Nat × Option Addr × Nat × Array Value × Nat) (m0 : Nat) : Prop where
  j : 16 * z.1 ≤ dE
  s : SlE (Value.int .u8) w z.2.1 ((X.drop (16 * z.1)).take (dE - 16 * z.1))
  c : dE - 16 * z.1 ≤ z.2.2.1
  h : z.2.2.2.1.size = 16
  m : m0 + 2 ≤ z.2.2.2.2
set_option maxRecDepth 100000 in
set_option maxHeartbeats 1000000 in
theorem code_parts (kb : Nat → Int) (hk : ∀ i, 0 ≤ kb i ∧ kb i ≤ 255) (ps : List Prt) (gp cp0 : Nat) (X : List Int) (hXe : X = joined ps) (hn : ps.length ≤ 1000) (hXl : X.length ≤ 100000) (w : World) (hps : ∀ p ∈ ps, p.Ok w) (hO : Old w gp 0 (ps.map Prt.v)) :
    CA Try.prog 14 [.agg (keyA kb), .slice (some ⟨gp, 0, none⟩) ps.length cp0] w (RV (.agg (codeB (accV (vl (rcl kb)) (X.map Int.toNat) (nbl X.length) + vl (((List.range 16).map fun i => kb (16 + i)).map Int.toNat)) 16).toArray) w) := by
  obtain ⟨rl, rh, eL, eH, hrl0, hrh0, hR⟩ := r_key kb hk
  have hrl : rl < 18446744073709551616 := by omega
  have hrh : rh < 18446744073709551616 := by omega
  have hXb : ∀ x ∈ X, 0 ≤ x ∧ x ≤ 255 := by
    intro x hx
    rw [hXe] at hx
    obtain ⟨p, hp, hx⟩ := List.mem_flatMap.1 hx
    exact (hps p hp).r x hx
  have hX : ∀ j i, 0 ≤ fq X j i ∧ fq X j i ≤ 255 := fun j i => getD_bd' hXb j i
  have hSl := stS_lt rl rh (fun j => wd0 (fq X j)) (fun j => wd1 (fq X j))
  have hSV : ∀ j, 16 * j ≤ X.length → StV (stS rl rh (fun j => wd0 (fq X j)) (fun j => wd1 (fq X j)) j) (accV (vl (rcl kb)) (X.map Int.toNat) j) := by
    intro j
    induction j with
    | zero => intro _; exact StV.zero
    | succ j ih =>
      intro hj
      exact (ih (by omega)).next (bh := 1) (by omega) (stS_next rl rh _ _ j) (hSl _) (wd0_eq (hX j)).2 (wd1_eq (hX j)).2 (blk_full X j (by omega)) hrl0 hrh0 hR
  have hbg : ∀ w, CA Try.prog 32 [.agg (keyA kb)] w (RV (.agg #[.int .u64 0, .int .u64 0, .int .u64 0, .int .u64 (rl : Int), .int .u64 (rh : Int)]) w) := fun w => by
    have := begin_c kb hk w
    rwa [eL, eH] at this
  refine enter (L := []) (X := []) Try.func14 rfl Try.ntmps14 rfl rfl (Has.nil _) ?_
  repeat (first | refine c_seq ?_ | (refine c_region (id := 0) ?_; refine st_e ?_; refine e_box_agg rfl rfl ?_; refine st_e ?_; refine e_alloc rfl ?_; refine l_nil ?_) | (refine c_region (id := 1) ?_; refine st_q (by (first | exact q_load_blk rfl (by (repeat (first | exact List.Mem.head _ | apply List.Mem.tail))) (by first | rfl | assumption) | (refine q_load_row rfl ?_ ?_ <;> assumption))) rfl ?_; refine st_e ?_; refine e_callp rfl rfl (by kernel_rfl) rfl (fun w hC hm hL => hbg w) ?_; intro m' hm'; refine st_e ?_; refine e_alloc rfl ?_; refine st_e0 ?_; refine e_store_all rfl rfl (by rfl) (by rfl) (by (repeat (first | exact Pl.here | apply Pl.there))) (by rfl) (by first | (left; simp; done) | (right; omega)) ?_; refine l_nil ?_) | (refine c_region (id := 2) ?_; refine st_e ?_; refine e_alloc rfl ?_; refine l_nil ?_) | (refine c_region (id := 3) ?_; refine st_q (by exact q_assign rfl) rfl ?_; refine l_nil ?_) | (refine c_region (id := 4) ?_; refine st_q (by exact q_move rfl) rfl ?_; refine st_q (by (first | exact q_len_sl rfl | exact q_len_str rfl)) rfl ?_; refine st_q (by exact q_move rfl) rfl ?_; refine l_nil ?_) | refine n_then ?_ | refine c_block ?_ | refine c_skip ?_ | refine n_block ?_ | refine c_exit ?_ | refine n_then_exit ?_ | refine n_block_eq ?_ | refine n_block_ne rfl ?_ | refine c_ret ?_ | refine n_then_ret ?_ | refine n_block_ret ?_ | refine c_cond_t rfl ?_ | refine c_cond_f rfl ?_ | refine r_succ ?_ )
  have e00 : off ps 0 = 0 := by simp [off, joined]
  refine chg (L' := [.blk (m' + 1) (.cells #[.int .u8 0, .int .u8 0, .int .u8 0, .int .u8 0, .int .u8 0, .int .u8 0, .int .u8 0, .int .u8 0, .int .u8 0, .int .u8 0, .int .u8 0, .int .u8 0, .int .u8 0, .int .u8 0, .int .u8 0, .int .u8 0] 26 (0, 0)), .blk m' (.cells #[.int .u64 (((stS rl rh (fun j => wd0 (fq X j)) (fun j => wd1 (fq X j)) (off ps 0 / 16)).1 : Nat) : Int), .int .u64 (((stS rl rh (fun j => wd0 (fq X j)) (fun j => wd1 (fq X j)) (off ps 0 / 16)).2.1 : Nat) : Int), .int .u64 (((stS rl rh (fun j => wd0 (fq X j)) (fun j => wd1 (fq X j)) (off ps 0 / 16)).2.2 : Nat) : Int), .int .u64 (rl : Int), .int .u64 (rh : Int)] 59 (0, 0)), .blk (w.heap.size + 1) (.cells #[.int .u8 0, .int .u8 0, .int .u8 0, .int .u8 0, .int .u8 0, .int .u8 0, .int .u8 0, .int .u8 0, .int .u8 0, .int .u8 0, .int .u8 0, .int .u8 0, .int .u8 0, .int .u8 0, .int .u8 0, .int .u8 0] 26 (0, 0)), .blk w.heap.size (.cells (keyA kb) 23 (0, 0))]) (by rw [e00]; rfl) ?_
  refine c_loop (γ := Nat × Array Value × Nat) (fun z => [(15, .int .i64 z.1), (7, .int .i64 ((off ps z.1 % 16 : Nat) : Int)), (5, .pointer (some ⟨m', 0, none⟩)), (6, .pointer (some ⟨m' + 1, 0, none⟩)), (2, .pointer (some ⟨w.heap.size, 0, none⟩)), (4, .pointer (some ⟨w.heap.size + 1, 0, none⟩)), (13, .slice (some ⟨gp, 0, none⟩) ps.length cp0), (14, .int .i64 ps.length)]) (fun z => z.2.2) (fun z => [.blk (m' + 1) (.cells z.2.1 26 (0, 0)), .blk m' (.cells #[.int .u64 (((stS rl rh (fun j => wd0 (fq X j)) (fun j => wd1 (fq X j)) (off ps z.1 / 16)).1 : Nat) : Int), .int .u64 (((stS rl rh (fun j => wd0 (fq X j)) (fun j => wd1 (fq X j)) (off ps z.1 / 16)).2.1 : Nat) : Int), .int .u64 (((stS rl rh (fun j => wd0 (fq X j)) (fun j => wd1 (fq X j)) (off ps z.1 / 16)).2.2 : Nat) : Int), .int .u64 (rl : Int), .int .u64 (rh : Int)] 59 (0, 0)), .blk (w.heap.size + 1) (.cells #[.int .u8 0, .int .u8 0, .int .u8 0, .int .u8 0, .int .u8 0, .int .u8 0, .int .u8 0, .int .u8 0, .int .u8 0, .int .u8 0, .int .u8 0, .int .u8 0, .int .u8 0, .int .u8 0, .int .u8 0, .int .u8 0] 26 (0, 0)), .blk w.heap.size (.cells (keyA kb) 23 (0, 0))]) (fun z => z.1 ≤ ps.length ∧ HP z.2.1 (fq X (off ps z.1 / 16)) (off ps z.1 % 16) ∧ m' + 2 ≤ z.2.2) (fun z => ps.length - z.1) ⟨0, #[.int .u8 0, .int .u8 0, .int .u8 0, .int .u8 0, .int .u8 0, .int .u8 0, .int .u8 0, .int .u8 0, .int .u8 0, .int .u8 0, .int .u8 0, .int .u8 0, .int .u8 0, .int .u8 0, .int .u8 0, .int .u8 0], m' + 1 + 1⟩ ⟨by simp, ⟨rfl, by simp [off, joined]⟩, by simp⟩ (by exact ⟨rfl, by dsimp only; rw [e00]; rfl, rfl, rfl, rfl, rfl, rfl, rfl, trivial⟩) rfl (by (repeat (first | exact List.Sublist.slnil | apply List.Sublist.cons_cons | apply List.Sublist.cons))) ?_
  rintro ⟨i, H, mm⟩ ⟨hi, hH, hmm⟩
  dsimp only at hi hH hmm ⊢
  repeat (first | refine c_seq ?_ | (refine c_region (id := 5) ?_; refine st_q (by exact q_lss rfl rfl) rfl ?_; refine l_nil ?_) | refine n_then ?_ | refine c_block ?_ | refine c_skip ?_ | refine n_block ?_ | refine c_exit ?_ | refine n_then_exit ?_ | refine n_block_eq ?_ | refine n_block_ne rfl ?_ | refine c_ret ?_ | refine n_then_ret ?_ | refine n_block_ret ?_ | refine c_cond_t rfl ?_ | refine c_cond_f rfl ?_ | refine r_succ ?_ )
  refine c_cond_dec rfl (fun h => ?_) (fun h => ?_)
  · have hi2 : i < ps.length := by omega
    obtain ⟨p, hp⟩ : ∃ p, ps[i]? = some p := ⟨_, List.getElem?_eq_getElem hi2⟩
    have hok := hps p (List.mem_of_getElem? hp)
    obtain ⟨hP1, hP2, hP3⟩ := part_at hp hok.l
    rw [← hXe] at hP1 hP3
    have hpl := hok.l
    have hpc := hok.c
    have hpx : (X.drop (off ps i)).take p.len = p.xs := by rw [hP1, ← hpl, List.take_left]
    have hpv : nth (ps.map Prt.v) i = some (.slice p.a p.len p.cap) := nth_map (enc := Prt.v) hp
    obtain ⟨c, hc⟩ : ∃ c, c = off ps i % 16 := ⟨_, rfl⟩
    obtain ⟨j0, hj0⟩ : ∃ j0, j0 = off ps i / 16 := ⟨_, rfl⟩
    have hcj : off ps i = 16 * j0 + c := by omega
    have hfq : ∀ q, fq X j0 (c + q) = X.getD (off ps i + q) 0 := fun q => by rw [hc, hj0]; exact fq_c X _ q
    rw [← hc, ← hj0] at hH ⊢
    refine c_skip ?_
    refine n_then ?_
    refine c_seq ?_
    refine c_block ?_
    refine c_seq ?_
    refine c_region (id := 6) ?_
    refine st_q (by exact q_indexAddr_sl (o' := 0 + i) rfl rfl (by omega) (by omega) (by omega)) rfl ?_
    refine st_q (by exact q_load rfl (by (first | exact Rd.blkn (by (repeat (first | exact List.Mem.head _ | apply List.Mem.tail))) (by first | rfl | assumption) | exact Rd.sln (by (repeat (first | exact List.Mem.head _ | apply List.Mem.tail))) (by first | rfl | assumption) | exact Rd.oldn (by assumption) (by first | rfl | assumption) (by simp) | exact Rd.old0 (by assumption) (by simp)))) rfl ?_
    refine st_q (by exact q_assign rfl) rfl ?_
    refine l_nil ?_
    refine n_then ?_
    refine c_join (γ := Nat × Option Addr × Nat × Array Value × Nat) (fun z => [(9, .slice z.2.1 (off ps i + p.len - 16 * z.1) z.2.2.1), (15, .int .i64 i), (5, .pointer (some ⟨m', 0, none⟩)), (6, .pointer (some ⟨m' + 1, 0, none⟩)), (2, .pointer (some ⟨w.heap.size, 0, none⟩)), (4, .pointer (some ⟨w.heap.size + 1, 0, none⟩)), (13, .slice (some ⟨gp, 0, none⟩) ps.length cp0), (14, .int .i64 ps.length)]) (fun z => z.2.2.2.2) (fun z => [.blk (m' + 1) (.cells z.2.2.2.1 26 (0, 0)), .blk m' (.cells #[.int .u64 (((stS rl rh (fun j => wd0 (fq X j)) (fun j => wd1 (fq X j)) z.1).1 : Nat) : Int), .int .u64 (((stS rl rh (fun j => wd0 (fq X j)) (fun j => wd1 (fq X j)) z.1).2.1 : Nat) : Int), .int .u64 (((stS rl rh (fun j => wd0 (fq X j)) (fun j => wd1 (fq X j)) z.1).2.2 : Nat) : Int), .int .u64 (rl : Int), .int .u64 (rh : Int)] 59 (0, 0)), .blk (w.heap.size + 1) (.cells #[.int .u8 0, .int .u8 0, .int .u8 0, .int .u8 0, .int .u8 0, .int .u8 0, .int .u8 0, .int .u8 0, .int .u8 0, .int .u8 0, .int .u8 0, .int .u8 0, .int .u8 0, .int .u8 0, .int .u8 0, .int .u8 0] 26 (0, 0)), .blk w.heap.size (.cells (keyA kb) 23 (0, 0))]) (fun z => Left w X (off ps i + p.len) z m') ?_ ?_
    · refine c_seq ?_
      by_cases hc0 : c = 0
      · repeat (first | refine c_seq ?_ | (refine c_region (id := 7) ?_; refine st_q (by exact q_move rfl) rfl ?_; refine st_q (by (first | exact Qt.cast (congrArg Value.bool (decide_eq_true (by omega))) (q_gtr rfl rfl) | exact Qt.cast (congrArg Value.bool (decide_eq_false (by omega))) (q_gtr rfl rfl))) rfl ?_; refine l_nil ?_) | refine n_then ?_ | refine c_block ?_ | refine c_skip ?_ | refine n_block ?_ | refine c_exit ?_ | refine n_then_exit ?_ | refine n_block_eq ?_ | refine n_block_ne rfl ?_ | refine c_ret ?_ | refine n_then_ret ?_ | refine n_block_ret ?_ | refine c_cond_t rfl ?_ | refine c_cond_f rfl ?_ | refine r_succ ?_ )
        refine c_joined ⟨j0, p.a, p.cap, H, mm⟩ ⟨by dsimp only; omega, by
          dsimp only
          rw [show off ps i + p.len - 16 * j0 = p.len by omega, show 16 * j0 = off ps i by omega, hpx]; exact hok.s, by dsimp only; omega, hH.size, hmm⟩ (by exact ⟨by dsimp only; rw [show off ps i + p.len - 16 * j0 = p.len by omega]; rfl, rfl, rfl, rfl, rfl, rfl, rfl, rfl, trivial⟩) (by rfl) (by (repeat (first | exact List.Sublist.slnil | apply List.Sublist.cons_cons | apply List.Sublist.cons)))
      · by_cases hbig : 16 ≤ c + p.len
        · obtain ⟨g, o, hpa, hOp⟩ := hok.s.get (i := 0) (by omega)
          have hseg : Old w g o ((List.range (16 - c)).map fun q => Value.int .u8 (fq X j0 (c + q))) := by
            have h1 := hOp.tak (16 - c)
            rw [← hpx, seg (by omega) (by omega)] at h1
            simpa only [hfq] using h1
          obtain ⟨pa, hpa2⟩ : ∃ pa, pa = p.a := ⟨_, rfl⟩
          repeat (first | refine c_seq ?_ | (refine c_region (id := 7) ?_; refine st_q (by exact q_move rfl) rfl ?_; refine st_q (by (first | exact Qt.cast (congrArg Value.bool (decide_eq_true (by omega))) (q_gtr rfl rfl) | exact Qt.cast (congrArg Value.bool (decide_eq_false (by omega))) (q_gtr rfl rfl))) rfl ?_; refine l_nil ?_) | refine n_then ?_ | refine c_block ?_ | refine c_skip ?_ | refine n_block ?_ | refine c_exit ?_ | refine n_then_exit ?_ | refine n_block_eq ?_ | refine n_block_ne rfl ?_ | refine c_ret ?_ | refine n_then_ret ?_ | refine n_block_ret ?_ | refine c_cond_t rfl ?_ | refine c_cond_f rfl ?_ | refine r_succ ?_ )
          rw [show Value.slice p.a p.len p.cap = Value.slice (some ⟨g, o, none⟩) p.len p.cap by rw [hpa]]
          repeat (first | refine c_seq ?_ | (refine c_region (id := 8) ?_; refine st_q (by exact q_move rfl) rfl ?_; refine st_q (by exact q_slice_arr (o' := c) (len' := 16 - c) (cap' := 16 - c) rfl rfl rfl (by omega) (by omega) (by omega) (by rw [Int.toNat_natCast, if_neg (by omega)]; omega) (by omega) (by omega)) rfl ?_; refine st_q (by exact q_move rfl) rfl ?_; refine st_e ?_; have hF : HP (setA H c ((List.range (16 - c)).map fun q => Value.int .u8 (fq X j0 (c + q)))) (fq X j0) 16 := (by have := hH.copy (n := 16 - c) (by omega); rwa [show c + (16 - c) = 16 by omega] at this); refine e_copy (news := ((List.range (16 - c)).map fun q => Value.int .u8 (fq X j0 (c + q)))) (k := (16 - c)) rfl rfl rfl (RdN.old hseg (by simp)) (by simp; omega) (allOne_map _ _) (by (repeat (first | exact Pl.here | apply Pl.there))) (by rw [List.length_map, List.length_range, hH.size]; omega) (by first | (left; simp; done) | (right; omega)) (by simp) ?_; refine st_q (by exact q_assign rfl) rfl ?_; refine l_nil ?_) | (refine c_region (id := 9) ?_; refine st_q (by exact q_move rfl) rfl ?_; refine st_q (by exact q_move rfl) rfl ?_; refine st_q (by exact Qt.cast (v' := .int .i64 ((16 : Nat) : Int)) (congrArg (Value.int .i64) (by omega)) (q_add64 rfl rfl ⟨by omega, by omega⟩ rfl)) rfl ?_; refine st_q (by exact q_assign rfl) rfl ?_; refine l_nil ?_) | (refine c_region (id := 10) ?_; refine st_q (by exact q_move rfl) rfl ?_; refine st_q (by exact q_move rfl) rfl ?_; refine st_q (by exact q_slice (b' := if p.cap = (16 - c) then (some (⟨g, o, none⟩ : Addr)) else (some (⟨g, o, none⟩ : Addr)).map (·.add ((16 - c) * 1))) (len' := p.len - (16 - c)) (cap' := p.cap - (16 - c)) rfl rfl rfl (by omega) (by omega) (by omega) (by omega) (by rw [Int.toNat_natCast]) (by omega) (by omega)) rfl ?_; refine st_q (by exact q_assign rfl) rfl ?_; refine l_nil ?_) | (refine c_region (id := 11) ?_; refine st_q (by exact q_move rfl) rfl ?_; refine st_q (by (first | exact Qt.cast (congrArg Value.bool (decide_eq_true (by omega))) (q_lss rfl rfl) | exact Qt.cast (congrArg Value.bool (decide_eq_false (by omega))) (q_lss rfl rfl))) rfl ?_; refine l_nil ?_) | (refine c_region (id := 12) ?_; refine st_q (by exact q_slice_arr (o' := 0) (len' := 16) (cap' := 16) rfl rfl rfl (by omega) (by omega) (by omega) (by simp) (by simp) (by simp)) rfl ?_; refine st_e ?_; refine e_call_upd rfl rfl (by kernel_rfl) rfl (fun w hC hm hL => by exact take_full _ _ _ _ rl rh _ _ _ _ _ (m' + 1) (0) 16 (by omega) (fq X (j0)) (hX _) (wd0_eq (hX _)).1 (wd1_eq (hX _)).1 (wd0_eq (hX _)).2 (wd1_eq (hX _)).2 (stS_next rl rh _ _ (j0)) (hSl _).1 (hSl _).2.1 (hSl _).2.2 hrl hrh (by omega) w (hL.old (k := 16) (by (repeat (first | exact List.Mem.head _ | apply List.Mem.tail))) (by exact hF.all)) (hL.sub (by (repeat (first | exact List.Sublist.slnil | apply List.Sublist.cons_cons | apply List.Sublist.cons))))) (by (repeat (first | exact Pl.here | apply Pl.there))) (by first | (left; simp; done) | (right; omega)) ?_; intro m9 hm9; refine l_nil ?_) | refine n_then ?_ | refine c_block ?_ | refine c_skip ?_ | refine n_block ?_ | refine c_exit ?_ | refine n_then_exit ?_ | refine n_block_eq ?_ | refine n_block_ne rfl ?_ | refine c_ret ?_ | refine n_then_ret ?_ | refine n_block_ret ?_ | refine c_cond_t rfl ?_ | refine c_cond_f rfl ?_ | refine r_succ ?_ )
          refine c_joined ⟨j0 + 1, if p.cap = 16 - c then (some (⟨g, o, none⟩ : Addr)) else (some (⟨g, o, none⟩ : Addr)).map (·.add ((16 - c) * 1)), p.cap - (16 - c), setA H c ((List.range (16 - c)).map fun q => Value.int .u8 (fq X j0 (c + q))), m9⟩ ⟨by dsimp only; omega, by
            dsimp only
            rw [show off ps i + p.len - 16 * (j0 + 1) = p.len - (16 - c) by omega, show 16 * (j0 + 1) = off ps i + (16 - c) by omega, ← List.drop_drop, ← hpa]
            have h1 := hok.s.part (16 - c) p.len p.cap (by omega) (by omega) (by omega)
            rw [← hpx, List.drop_take, List.take_take, Nat.min_self] at h1
            exact h1, by dsimp only; omega, by dsimp only; rw [setA_size]; exact hH.size, by dsimp only; omega⟩ (by exact ⟨by dsimp only; rw [show off ps i + p.len - 16 * (j0 + 1) = p.len - (16 - c) by omega]; rfl, rfl, rfl, rfl, rfl, rfl, rfl, rfl, trivial⟩) (by rfl) (by (repeat (first | exact List.Sublist.slnil | apply List.Sublist.cons_cons | apply List.Sublist.cons)))
        · have hnx : off ps (i + 1) / 16 = j0 ∧ off ps (i + 1) % 16 = c + p.len := by omega
          by_cases hz : p.len = 0
          · repeat (first | refine c_seq ?_ | (refine c_region (id := 7) ?_; refine st_q (by exact q_move rfl) rfl ?_; refine st_q (by (first | exact Qt.cast (congrArg Value.bool (decide_eq_true (by omega))) (q_gtr rfl rfl) | exact Qt.cast (congrArg Value.bool (decide_eq_false (by omega))) (q_gtr rfl rfl))) rfl ?_; refine l_nil ?_) | (refine c_region (id := 8) ?_; refine st_q (by exact q_move rfl) rfl ?_; refine st_q (by exact q_slice_arr (o' := c) (len' := 16 - c) (cap' := 16 - c) rfl rfl rfl (by omega) (by omega) (by omega) (by rw [Int.toNat_natCast, if_neg (by omega)]; omega) (by omega) (by omega)) rfl ?_; refine st_q (by exact q_move rfl) rfl ?_; refine st_e ?_; refine e_copy_none rfl rfl rfl (by omega) ?_; refine st_q (by exact q_assign rfl) rfl ?_; refine l_nil ?_) | (refine c_region (id := 9) ?_; refine st_q (by exact q_move rfl) rfl ?_; refine st_q (by exact q_move rfl) rfl ?_; refine st_q (by exact Qt.cast (v' := .int .i64 ((c + p.len : Nat) : Int)) (congrArg (Value.int .i64) (by omega)) (q_add64 rfl rfl ⟨by omega, by omega⟩ rfl)) rfl ?_; refine st_q (by exact q_assign rfl) rfl ?_; refine l_nil ?_) | (refine c_region (id := 10) ?_; refine st_q (by exact q_move rfl) rfl ?_; refine st_q (by exact q_move rfl) rfl ?_; refine st_q (by exact q_slice (b' := if p.cap = 0 then p.a else p.a.map (·.add (0 * 1))) (len' := p.len - 0) (cap' := p.cap - 0) rfl rfl rfl (by omega) (by omega) (by omega) (by omega) (by rw [Int.toNat_zero]) (by omega) (by omega)) rfl ?_; refine st_q (by exact q_assign rfl) rfl ?_; refine l_nil ?_) | (refine c_region (id := 11) ?_; refine st_q (by exact q_move rfl) rfl ?_; refine st_q (by (first | exact Qt.cast (congrArg Value.bool (decide_eq_true (by omega))) (q_lss rfl rfl) | exact Qt.cast (congrArg Value.bool (decide_eq_false (by omega))) (q_lss rfl rfl))) rfl ?_; refine l_nil ?_) | (refine c_region (id := 17) ?_; refine st_q (by exact q_add64 rfl rfl ⟨by omega, by omega⟩ (by first | (simp only [Nat.zero_add, Nat.add_zero, Nat.mul_one, Nat.one_mul, Int.toNat_natCast, Int.reduceToNat, Nat.reduceMul, Nat.reduceAdd, Nat.reduceSub, Int.reduceAdd, Int.reduceSub, Int.reduceMul, Nat.sub_zero, Int.toNat_zero, Int.zero_add, Int.add_zero, Int.sub_zero, Int.mul_one, Int.one_mul]; try exact rfl) | exact rfl)) rfl ?_; refine st_q (by exact q_move rfl) rfl ?_; refine l_nil ?_) | refine n_then ?_ | refine c_block ?_ | refine c_skip ?_ | refine n_block ?_ | refine c_exit ?_ | refine n_then_exit ?_ | refine n_block_eq ?_ | refine n_block_ne rfl ?_ | refine c_ret ?_ | refine n_then_ret ?_ | refine n_block_ret ?_ | refine c_cond_t rfl ?_ | refine c_cond_f rfl ?_ | refine r_succ ?_ )
            refine c_round ⟨i + 1, H, mm⟩ ⟨by dsimp only; omega, by dsimp only; rw [hnx.1, hnx.2, hz]; exact hH, hmm⟩ (by dsimp only; omega) (by exact ⟨rfl, by dsimp only; rw [hnx.2]; rfl, rfl, rfl, rfl, rfl, rfl, rfl, trivial⟩) (by rfl) (by rw [hnx.1]; exact (by (repeat (first | exact List.Sublist.slnil | apply List.Sublist.cons_cons | apply List.Sublist.cons))))
          · obtain ⟨g, o, hpa, hOp⟩ := hok.s.get (i := 0) (by omega)
            have hseg : Old w g o ((List.range p.len).map fun q => Value.int .u8 (fq X j0 (c + q))) := by
              have h1 := hOp.tak p.len
              rw [← hpx, seg (by omega) (by omega)] at h1
              simpa only [hfq] using h1
            repeat (first | refine c_seq ?_ | (refine c_region (id := 7) ?_; refine st_q (by exact q_move rfl) rfl ?_; refine st_q (by (first | exact Qt.cast (congrArg Value.bool (decide_eq_true (by omega))) (q_gtr rfl rfl) | exact Qt.cast (congrArg Value.bool (decide_eq_false (by omega))) (q_gtr rfl rfl))) rfl ?_; refine l_nil ?_) | refine n_then ?_ | refine c_block ?_ | refine c_skip ?_ | refine n_block ?_ | refine c_exit ?_ | refine n_then_exit ?_ | refine n_block_eq ?_ | refine n_block_ne rfl ?_ | refine c_ret ?_ | refine n_then_ret ?_ | refine n_block_ret ?_ | refine c_cond_t rfl ?_ | refine c_cond_f rfl ?_ | refine r_succ ?_ )
            rw [show Value.slice p.a p.len p.cap = Value.slice (some ⟨g, o, none⟩) p.len p.cap by rw [hpa]]
            repeat (first | refine c_seq ?_ | (refine c_region (id := 8) ?_; refine st_q (by exact q_move rfl) rfl ?_; refine st_q (by exact q_slice_arr (o' := c) (len' := 16 - c) (cap' := 16 - c) rfl rfl rfl (by omega) (by omega) (by omega) (by rw [Int.toNat_natCast, if_neg (by omega)]; omega) (by omega) (by omega)) rfl ?_; refine st_q (by exact q_move rfl) rfl ?_; refine st_e ?_; refine e_copy (news := ((List.range p.len).map fun q => Value.int .u8 (fq X j0 (c + q)))) (k := p.len) rfl rfl rfl (RdN.old hseg (by simp)) (by simp; omega) (allOne_map _ _) (by (repeat (first | exact Pl.here | apply Pl.there))) (by rw [List.length_map, List.length_range, hH.size]; omega) (by first | (left; simp; done) | (right; omega)) (by simp) ?_; refine st_q (by exact q_assign rfl) rfl ?_; refine l_nil ?_) | (refine c_region (id := 9) ?_; refine st_q (by exact q_move rfl) rfl ?_; refine st_q (by exact q_move rfl) rfl ?_; refine st_q (by exact Qt.cast (v' := .int .i64 ((c + p.len : Nat) : Int)) (congrArg (Value.int .i64) (by omega)) (q_add64 rfl rfl ⟨by omega, by omega⟩ rfl)) rfl ?_; refine st_q (by exact q_assign rfl) rfl ?_; refine l_nil ?_) | (refine c_region (id := 10) ?_; refine st_q (by exact q_move rfl) rfl ?_; refine st_q (by exact q_move rfl) rfl ?_; refine st_q (by exact q_slice (b' := if p.cap = p.len then (some (⟨g, o, none⟩ : Addr)) else (some (⟨g, o, none⟩ : Addr)).map (·.add (p.len * 1))) (len' := p.len - p.len) (cap' := p.cap - p.len) rfl rfl rfl (by omega) (by omega) (by omega) (by omega) (by rw [Int.toNat_natCast]) (by omega) (by omega)) rfl ?_; refine st_q (by exact q_assign rfl) rfl ?_; refine l_nil ?_) | (refine c_region (id := 11) ?_; refine st_q (by exact q_move rfl) rfl ?_; refine st_q (by (first | exact Qt.cast (congrArg Value.bool (decide_eq_true (by omega))) (q_lss rfl rfl) | exact Qt.cast (congrArg Value.bool (decide_eq_false (by omega))) (q_lss rfl rfl))) rfl ?_; refine l_nil ?_) | (refine c_region (id := 17) ?_; refine st_q (by exact q_add64 rfl rfl ⟨by omega, by omega⟩ (by first | (simp only [Nat.zero_add, Nat.add_zero, Nat.mul_one, Nat.one_mul, Int.toNat_natCast, Int.reduceToNat, Nat.reduceMul, Nat.reduceAdd, Nat.reduceSub, Int.reduceAdd, Int.reduceSub, Int.reduceMul, Nat.sub_zero, Int.toNat_zero, Int.zero_add, Int.add_zero, Int.sub_zero, Int.mul_one, Int.one_mul]; try exact rfl) | exact rfl)) rfl ?_; refine st_q (by exact q_move rfl) rfl ?_; refine l_nil ?_) | refine n_then ?_ | refine c_block ?_ | refine c_skip ?_ | refine n_block ?_ | refine c_exit ?_ | refine n_then_exit ?_ | refine n_block_eq ?_ | refine n_block_ne rfl ?_ | refine c_ret ?_ | refine n_then_ret ?_ | refine n_block_ret ?_ | refine c_cond_t rfl ?_ | refine c_cond_f rfl ?_ | refine r_succ ?_ )
            refine c_round ⟨i + 1, setA H c ((List.range p.len).map fun q => Value.int .u8 (fq X j0 (c + q))), mm⟩ ⟨by dsimp only; omega, by dsimp only; rw [hnx.1, hnx.2]; exact hH.copy (by omega), hmm⟩ (by dsimp only; omega) (by exact ⟨rfl, by dsimp only; rw [hnx.2]; rfl, rfl, rfl, rfl, rfl, rfl, rfl, trivial⟩) (by rfl) (by rw [hnx.1]; exact (by (repeat (first | exact List.Sublist.slnil | apply List.Sublist.cons_cons | apply List.Sublist.cons))))
    · rintro ⟨j, ba, cp, H, mm⟩ ⟨hj, hs, hcp, hHs, hmm2⟩
      dsimp only at hj hs hcp hHs hmm2 ⊢
      obtain ⟨dE, hdE⟩ : ∃ dE, dE = off ps i + p.len := ⟨_, rfl⟩
      rw [← hdE] at hj hs hcp hP2 ⊢
      have hdX : dE ≤ X.length := by omega
      clear hcj hfq hc hj0 hpx hpv
      repeat (first | refine c_seq ?_ | refine n_then ?_ | refine c_block ?_ | refine c_skip ?_ | refine n_block ?_ | refine c_exit ?_ | refine n_then_exit ?_ | refine n_block_eq ?_ | refine n_block_ne rfl ?_ | refine c_ret ?_ | refine n_then_ret ?_ | refine n_block_ret ?_ | refine c_cond_t rfl ?_ | refine c_cond_f rfl ?_ | refine r_succ ?_ )
      refine c_loop (γ := Nat × Option Addr × Nat × Nat) (fun z => [(9, .slice z.2.1 (dE - 16 * z.1) z.2.2.1), (15, .int .i64 i), (5, .pointer (some ⟨m', 0, none⟩)), (6, .pointer (some ⟨m' + 1, 0, none⟩)), (2, .pointer (some ⟨w.heap.size, 0, none⟩)), (4, .pointer (some ⟨w.heap.size + 1, 0, none⟩)), (13, .slice (some ⟨gp, 0, none⟩) ps.length cp0), (14, .int .i64 ps.length)]) (fun z => z.2.2.2) (fun z => [.blk (m' + 1) (.cells H 26 (0, 0)), .blk m' (.cells #[.int .u64 (((stS rl rh (fun j => wd0 (fq X j)) (fun j => wd1 (fq X j)) z.1).1 : Nat) : Int), .int .u64 (((stS rl rh (fun j => wd0 (fq X j)) (fun j => wd1 (fq X j)) z.1).2.1 : Nat) : Int), .int .u64 (((stS rl rh (fun j => wd0 (fq X j)) (fun j => wd1 (fq X j)) z.1).2.2 : Nat) : Int), .int .u64 (rl : Int), .int .u64 (rh : Int)] 59 (0, 0)), .blk (w.heap.size + 1) (.cells #[.int .u8 0, .int .u8 0, .int .u8 0, .int .u8 0, .int .u8 0, .int .u8 0, .int .u8 0, .int .u8 0, .int .u8 0, .int .u8 0, .int .u8 0, .int .u8 0, .int .u8 0, .int .u8 0, .int .u8 0, .int .u8 0] 26 (0, 0)), .blk w.heap.size (.cells (keyA kb) 23 (0, 0))]) (fun z => 16 * z.1 ≤ dE ∧ SlE (Value.int .u8) w z.2.1 ((X.drop (16 * z.1)).take (dE - 16 * z.1)) ∧ dE - 16 * z.1 ≤ z.2.2.1 ∧ m' + 2 ≤ z.2.2.2) (fun z => dE - 16 * z.1) ⟨j, ba, cp, mm⟩ ⟨hj, hs, hcp, hmm2⟩ (by exact ⟨rfl, rfl, rfl, rfl, rfl, rfl, rfl, rfl, trivial⟩) rfl (by (repeat (first | exact List.Sublist.slnil | apply List.Sublist.cons_cons | apply List.Sublist.cons))) ?_
      rintro ⟨j, ba, cp, mm⟩ ⟨hj, hs, hcp, hmm2⟩
      dsimp only at hj hs hcp hmm2 ⊢
      have hlen : ((X.drop (16 * j)).take (dE - 16 * j)).length = dE - 16 * j := by simp; omega
      repeat (first | refine c_seq ?_ | (refine c_region (id := 13) ?_; refine st_q (by exact q_move rfl) rfl ?_; refine st_q (by (first | exact q_len_sl rfl | exact q_len_str rfl)) rfl ?_; refine st_q (by exact q_geq rfl rfl) rfl ?_; refine l_nil ?_) | refine n_then ?_ | refine c_block ?_ | refine c_skip ?_ | refine n_block ?_ | refine c_exit ?_ | refine n_then_exit ?_ | refine n_block_eq ?_ | refine n_block_ne rfl ?_ | refine c_ret ?_ | refine n_then_ret ?_ | refine n_block_ret ?_ | refine c_cond_t rfl ?_ | refine c_cond_f rfl ?_ | refine r_succ ?_ )
      refine c_cond_dec rfl (fun hg16 => ?_) (fun hg16 => ?_)
      · obtain ⟨g, o, rfl, hOp⟩ := hs.get (i := 0) (by omega)
        have hO16 : Old w g o [.int .u8 (fq X j 0), .int .u8 (fq X j 1), .int .u8 (fq X j 2), .int .u8 (fq X j 3), .int .u8 (fq X j 4), .int .u8 (fq X j 5), .int .u8 (fq X j 6), .int .u8 (fq X j 7), .int .u8 (fq X j 8), .int .u8 (fq X j 9), .int .u8 (fq X j 10), .int .u8 (fq X j 11), .int .u8 (fq X j 12), .int .u8 (fq X j 13), .int .u8 (fq X j 14), .int .u8 (fq X j 15)] := by
          have h1 := hOp.tak 16
          rw [seg (by omega) (by omega)] at h1
          exact h1
        have hgl := hO16.lt
        repeat (first | refine c_seq ?_ | (refine c_region (id := 14) ?_; refine st_q (by exact q_move rfl) rfl ?_; refine st_q (by exact q_slice (b' := some ⟨g, o, none⟩) (len' := 16) (cap' := cp) rfl rfl rfl (by omega) (by omega) (by omega) (by omega) (by rw [if_neg (by omega)]; simp [Addr.add_mid]) (by simp) (by simp)) rfl ?_; refine st_e ?_; refine e_call_upd rfl rfl (by kernel_rfl) rfl (fun w hC hm hL => by exact take_full _ _ _ _ rl rh _ _ _ _ _ (g) (o) cp (by omega) (fq X (j)) (hX _) (wd0_eq (hX _)).1 (wd1_eq (hX _)).1 (wd0_eq (hX _)).2 (wd1_eq (hX _)).2 (stS_next rl rh _ _ (j)) (hSl _).1 (hSl _).2.1 (hSl _).2.2 hrl hrh (by omega) w (hO16.ch hC (by simp)) (hL.sub (by (repeat (first | exact List.Sublist.slnil | apply List.Sublist.cons_cons | apply List.Sublist.cons))))) (by (repeat (first | exact Pl.here | apply Pl.there))) (by first | (left; simp; done) | (right; omega)) ?_; intro m9 hm9; refine l_nil ?_) | (refine c_region (id := 15) ?_; refine st_q (by exact q_move rfl) rfl ?_; refine st_q (by exact q_slice (b' := if cp = 16 then (some (⟨g, o, none⟩ : Addr)) else (some (⟨g, o, none⟩ : Addr)).map (·.add (16 * 1))) (len' := dE - 16 * (j + 1)) (cap' := cp - 16) rfl rfl rfl (by omega) (by omega) (by omega) (by omega) (by rfl) (by show (dE - 16 * j : Nat) - 16 = _; omega) (by rfl)) rfl ?_; refine st_q (by exact q_assign rfl) rfl ?_; refine l_nil ?_) | refine n_then ?_ | refine c_block ?_ | refine c_skip ?_ | refine n_block ?_ | refine c_exit ?_ | refine n_then_exit ?_ | refine n_block_eq ?_ | refine n_block_ne rfl ?_ | refine c_ret ?_ | refine n_then_ret ?_ | refine n_block_ret ?_ | refine c_cond_t rfl ?_ | refine c_cond_f rfl ?_ | refine r_succ ?_ )
        refine c_round ⟨j + 1, if cp = 16 then (some (⟨g, o, none⟩ : Addr)) else (some (⟨g, o, none⟩ : Addr)).map (·.add (16 * 1)), cp - 16, m9⟩ ⟨by dsimp only; omega, by
          dsimp only
          have h1 := hs.part 16 (dE - 16 * j) cp (by omega) (by omega) (by omega)
          rw [List.drop_take, List.take_take, Nat.min_self, List.drop_drop, show dE - 16 * j - 16 = dE - 16 * (j + 1) by omega, show 16 * j + 16 = 16 * (j + 1) by omega] at h1
          exact h1, by dsimp only; omega, by dsimp only; omega⟩ (by dsimp only; omega) (by exact ⟨rfl, rfl, rfl, rfl, rfl, rfl, rfl, rfl, trivial⟩) (by rfl) (by (repeat (first | exact List.Sublist.slnil | apply List.Sublist.cons_cons | apply List.Sublist.cons)))
      · have hnx : off ps (i + 1) / 16 = j ∧ off ps (i + 1) % 16 = dE - 16 * j := by omega
        by_cases hz : dE - 16 * j = 0
        · repeat (first | refine c_seq ?_ | (refine c_region (id := 16) ?_; refine st_q (by exact q_slice_arr (o' := 0) (len' := 16) (cap' := 16) rfl rfl rfl (by omega) (by omega) (by omega) (by simp) (by simp) (by simp)) rfl ?_; refine st_q (by exact q_move rfl) rfl ?_; refine st_e ?_; refine e_copy_none rfl rfl rfl (by omega) ?_; refine st_q (by exact q_assign rfl) rfl ?_; refine l_nil ?_) | (refine c_region (id := 17) ?_; refine st_q (by exact q_add64 rfl rfl ⟨by omega, by omega⟩ (by first | (simp only [Nat.zero_add, Nat.add_zero, Nat.mul_one, Nat.one_mul, Int.toNat_natCast, Int.reduceToNat, Nat.reduceMul, Nat.reduceAdd, Nat.reduceSub, Int.reduceAdd, Int.reduceSub, Int.reduceMul, Nat.sub_zero, Int.toNat_zero, Int.zero_add, Int.add_zero, Int.sub_zero, Int.mul_one, Int.one_mul]; try exact rfl) | exact rfl)) rfl ?_; refine st_q (by exact q_move rfl) rfl ?_; refine l_nil ?_) | refine n_then ?_ | refine c_block ?_ | refine c_skip ?_ | refine n_block ?_ | refine c_exit ?_ | refine n_then_exit ?_ | refine n_block_eq ?_ | refine n_block_ne rfl ?_ | refine c_ret ?_ | refine n_then_ret ?_ | refine n_block_ret ?_ | refine c_cond_t rfl ?_ | refine c_cond_f rfl ?_ | refine r_succ ?_ )
          refine c_round ⟨i + 1, H, mm⟩ ⟨by dsimp only; omega, by dsimp only; rw [hnx.1, hnx.2, hz]; exact ⟨hHs, by simp⟩, hmm2⟩ (by dsimp only; omega) (by exact ⟨rfl, by dsimp only; rw [hnx.2, hz]; rfl, rfl, rfl, rfl, rfl, rfl, rfl, trivial⟩) (by rfl) (by rw [hnx.1]; exact (by (repeat (first | exact List.Sublist.slnil | apply List.Sublist.cons_cons | apply List.Sublist.cons))))
        · obtain ⟨g, o, rfl, hOp⟩ := hs.get (i := 0) (by omega)
          have hseg : Old w g o ((List.range (dE - 16 * j)).map fun q => Value.int .u8 (fq X j q)) := by
            have h1 := hOp.tak (dE - 16 * j)
            rw [seg (by omega) (by omega)] at h1
            exact h1
          repeat (first | refine c_seq ?_ | (refine c_region (id := 16) ?_; refine st_q (by exact q_slice_arr (o' := 0) (len' := 16) (cap' := 16) rfl rfl rfl (by omega) (by omega) (by omega) (by simp) (by simp) (by simp)) rfl ?_; refine st_q (by exact q_move rfl) rfl ?_; refine st_e ?_; refine e_copy (news := ((List.range (dE - 16 * j)).map fun q => Value.int .u8 (fq X j q))) (k := dE - 16 * j) rfl rfl rfl (RdN.old hseg (by simp)) (by simp; omega) (allOne_map _ _) (by (repeat (first | exact Pl.here | apply Pl.there))) (by rw [List.length_map, List.length_range, hHs]; omega) (by first | (left; simp; done) | (right; omega)) (by simp) ?_; refine st_q (by exact q_assign rfl) rfl ?_; refine l_nil ?_) | (refine c_region (id := 17) ?_; refine st_q (by exact q_add64 rfl rfl ⟨by omega, by omega⟩ (by first | (simp only [Nat.zero_add, Nat.add_zero, Nat.mul_one, Nat.one_mul, Int.toNat_natCast, Int.reduceToNat, Nat.reduceMul, Nat.reduceAdd, Nat.reduceSub, Int.reduceAdd, Int.reduceSub, Int.reduceMul, Nat.sub_zero, Int.toNat_zero, Int.zero_add, Int.add_zero, Int.sub_zero, Int.mul_one, Int.one_mul]; try exact rfl) | exact rfl)) rfl ?_; refine st_q (by exact q_move rfl) rfl ?_; refine l_nil ?_) | refine n_then ?_ | refine c_block ?_ | refine c_skip ?_ | refine n_block ?_ | refine c_exit ?_ | refine n_then_exit ?_ | refine n_block_eq ?_ | refine n_block_ne rfl ?_ | refine c_ret ?_ | refine n_then_ret ?_ | refine n_block_ret ?_ | refine c_cond_t rfl ?_ | refine c_cond_f rfl ?_ | refine r_succ ?_ )
          refine c_round ⟨i + 1, setA H 0 ((List.range (dE - 16 * j)).map fun q => Value.int .u8 (fq X j q)), mm⟩ ⟨by dsimp only; omega, by dsimp only; rw [hnx.1, hnx.2]; exact HP.set0 hHs (by omega), hmm2⟩ (by dsimp only; omega) (by exact ⟨rfl, by dsimp only; rw [hnx.2]; rfl, rfl, rfl, rfl, rfl, rfl, rfl, trivial⟩) (by rfl) (by rw [hnx.1]; exact (by (repeat (first | exact List.Sublist.slnil | apply List.Sublist.cons_cons | apply List.Sublist.cons))))
  · obtain rfl : i = ps.length := by omega
    have hoff : off ps ps.length = X.length := by rw [off_all, hXe]
    rw [hoff] at hH ⊢
    by_cases hm0 : X.length % 16 = 0
    · have hS := hSV (X.length / 16) (by omega)
      have hnb : nbl X.length = X.length / 16 := by unfold nbl; omega
      rw [hnb]
      repeat (first | refine c_seq ?_ | (refine c_region (id := 5) ?_; refine st_q (by exact q_lss rfl rfl) rfl ?_; refine l_nil ?_) | (refine c_region (id := 18) ?_; refine st_q (by exact q_move rfl) rfl ?_; refine st_q (by (first | exact Qt.cast (congrArg Value.bool (decide_eq_true (by omega))) (q_gtr rfl rfl) | exact Qt.cast (congrArg Value.bool (decide_eq_false (by omega))) (q_gtr rfl rfl))) rfl ?_; refine l_nil ?_) | (refine c_region (id := 20) ?_; refine st_q (by (first | exact q_load_blk rfl (by (repeat (first | exact List.Mem.head _ | apply List.Mem.tail))) (by first | rfl | assumption) | (refine q_load_row rfl ?_ ?_ <;> assumption))) rfl ?_; refine st_e ?_; refine e_callp rfl rfl (by kernel_rfl) rfl (fun w hC hm hL => by exact end_c kb hk _ _ _ (hSl _).1 (hSl _).2.1 _ _ _ w (hL.sub (by (repeat (first | exact List.Sublist.slnil | apply List.Sublist.cons_cons | apply List.Sublist.cons))))) ?_; intro m' hm'; refine st_e0 ?_; refine e_store_all rfl rfl (by rfl) (by rfl) (by (repeat (first | exact Pl.here | apply Pl.there))) (by rfl) (by first | (left; simp; done) | (right; omega)) ?_; refine l_nil ?_) | refine n_then ?_ | refine c_block ?_ | refine c_skip ?_ | refine n_block ?_ | refine c_exit ?_ | refine n_then_exit ?_ | refine n_block_eq ?_ | refine n_block_ne rfl ?_ | refine c_ret ?_ | refine n_then_ret ?_ | refine n_block_ret ?_ | refine c_cond_t rfl ?_ | refine c_cond_f rfl ?_ | refine r_succ ?_ )
      (first | apply r_ret () | apply r_end ()); exact rfl; exact rfl; exact (.row rfl (by (repeat (first | exact List.Mem.head _ | apply List.Mem.tail))) (by rfl) .nil); exact (congrArg Value.agg (code_end kb hk hS)); exact (List.nil_sublist _); exact new_nil; exact trivial
    · obtain ⟨r, hr⟩ : ∃ r, r = X.length % 16 := ⟨_, rfl⟩
      obtain ⟨jn, hjn⟩ : ∃ jn, jn = X.length / 16 := ⟨_, rfl⟩
      have hnb : nbl X.length = jn + 1 := by unfold nbl; omega
      rw [hnb]
      rw [← hr, ← hjn] at hH ⊢
      have hsb := shF_bd (fq X jn) (hX jn) r
      obtain ⟨F, hF⟩ := KR.next 0 (stS rl rh (fun j => wd0 (fq X j)) (fun j => wd1 (fq X j)) jn).1 (stS rl rh (fun j => wd0 (fq X j)) (fun j => wd1 (fq X j)) jn).2.1 (stS rl rh (fun j => wd0 (fq X j)) (fun j => wd1 (fq X j)) jn).2.2 rl rh (wd0 (shF (fq X jn) r)) (wd1 (shF (fq X jn) r))
      have hFl := hF.lt
      have hS : StV F (accV (vl (rcl kb)) (X.map Int.toNat) (jn + 1)) := (hSV jn (by omega)).next (bh := 0) (by omega) hF hFl (wd0_eq hsb).2 (wd1_eq hsb).2 (blk_tail X jn r (by omega) (by omega)) hrl0 hrh0 hR
      have hH2 : (H.toList.drop 0).take r = (List.range r).map fun i => Value.int .u8 (fq X jn i) := by rw [List.drop_zero]; exact hH.pre
      repeat (first | refine c_seq ?_ | (refine c_region (id := 5) ?_; refine st_q (by exact q_lss rfl rfl) rfl ?_; refine l_nil ?_) | (refine c_region (id := 18) ?_; refine st_q (by exact q_move rfl) rfl ?_; refine st_q (by (first | exact Qt.cast (congrArg Value.bool (decide_eq_true (by omega))) (q_gtr rfl rfl) | exact Qt.cast (congrArg Value.bool (decide_eq_false (by omega))) (q_gtr rfl rfl))) rfl ?_; refine l_nil ?_) | refine n_then ?_ | refine c_block ?_ | refine c_skip ?_ | refine n_block ?_ | refine c_exit ?_ | refine n_then_exit ?_ | refine n_block_eq ?_ | refine n_block_ne rfl ?_ | refine c_ret ?_ | refine n_then_ret ?_ | refine n_block_ret ?_ | refine c_cond_t rfl ?_ | refine c_cond_f rfl ?_ | refine r_succ ?_ )
      repeat (first | refine c_seq ?_ | (refine c_region (id := 19) ?_; refine st_q (by exact q_move rfl) rfl ?_; refine st_q (by exact q_slice_arr (o' := 0) (len' := r) (cap' := 16) rfl rfl rfl (by omega) (by omega) (by omega) (by simp) (by simp) (by simp)) rfl ?_; refine st_e ?_; refine e_call_upd rfl rfl (by kernel_rfl) rfl (fun w hC hm hL => by exact take_short _ _ _ _ rl rh _ _ _ _ _ (m' + 1) 0 r 16 (by omega) (by omega) (fq X jn) (hX _) (wd0_eq hsb).1 (wd1_eq hsb).1 (wd0_eq hsb).2 (wd1_eq hsb).2 hF (hSl _).1 (hSl _).2.1 (hSl _).2.2 hrl hrh (by omega) w (hL.old (k := r) (by (repeat (first | exact List.Mem.head _ | apply List.Mem.tail))) hH2) (hL.sub (by (repeat (first | exact List.Sublist.slnil | apply List.Sublist.cons_cons | apply List.Sublist.cons))))) (by (repeat (first | exact Pl.here | apply Pl.there))) (by first | (left; simp; done) | (right; omega)) ?_; intro m9 hm9; refine l_nil ?_) | refine n_then ?_ | refine c_block ?_ | refine c_skip ?_ | refine n_block ?_ | refine c_exit ?_ | refine n_then_exit ?_ | refine n_block_eq ?_ | refine n_block_ne rfl ?_ | refine c_ret ?_ | refine n_then_ret ?_ | refine n_block_ret ?_ | refine c_cond_t rfl ?_ | refine c_cond_f rfl ?_ | refine r_succ ?_ )
      repeat (first | refine c_seq ?_ | (refine c_region (id := 20) ?_; refine st_q (by (first | exact q_load_blk rfl (by (repeat (first | exact List.Mem.head _ | apply List.Mem.tail))) (by first | rfl | assumption) | (refine q_load_row rfl ?_ ?_ <;> assumption))) rfl ?_; refine st_e ?_; refine e_callp rfl rfl (by kernel_rfl) rfl (fun w hC hm hL => by exact end_c kb hk _ _ _ hFl.1 hFl.2.1 _ _ _ w (hL.sub (by (repeat (first | exact List.Sublist.slnil | apply List.Sublist.cons_cons | apply List.Sublist.cons))))) ?_; intro m' hm'; refine st_e0 ?_; refine e_store_all rfl rfl (by rfl) (by rfl) (by (repeat (first | exact Pl.here | apply Pl.there))) (by rfl) (by first | (left; simp; done) | (right; omega)) ?_; refine l_nil ?_) | refine n_then ?_ | refine c_block ?_ | refine c_skip ?_ | refine n_block ?_ | refine c_exit ?_ | refine n_then_exit ?_ | refine n_block_eq ?_ | refine n_block_ne rfl ?_ | refine c_ret ?_ | refine n_then_ret ?_ | refine n_block_ret ?_ | refine c_cond_t rfl ?_ | refine c_cond_f rfl ?_ | refine r_succ ?_ )
      (first | apply r_ret () | apply r_end ()); exact rfl; exact rfl; exact (.row rfl (by (repeat (first | exact List.Mem.head _ | apply List.Mem.tail))) (by rfl) .nil); exact (congrArg Value.agg (code_end kb hk hS)); exact (List.nil_sublist _); exact new_nil; exact trivial
end Go.Proofs.Ytbkdopmnaopppaa
