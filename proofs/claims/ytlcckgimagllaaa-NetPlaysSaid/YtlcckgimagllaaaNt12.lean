/- net: operations that come in; few. -/
import Derived.Test.YtlcckgimagllaaaNt11
namespace Go.Proofs.Ytlcckgimagllaaa
open Go Go.RowKit
set_option linter.unusedVariables false
set_option linter.unusedSimpArgs false
/-- An operation that comes in. -/
structure OpI where
  kd : Nat
  i : Int
  f : Int
  t : Int
  a : Option Addr
  len : Nat
  cap : Nat
  xs : List Int
def OpI.enc (p : OpI) : List Value := [.int .u8 (p.kd : Int), .int .i64 p.i, .int .i64 p.f, .int .i64 p.t, .slice p.a p.len p.cap]
theorem OpI.enc_len (p : OpI) : p.enc.length = 5 := rfl
structure OpI.Ok (w : World) (p : OpI) : Prop where
  s : SlE (Value.int .u8) w p.a p.xs
  l : p.xs.length = p.len
  c : p.len ≤ p.cap
  m : p.len ≤ 9223372036854775807
  k : p.kd < 256
theorem op_reads {w : World} {c : List Value} (h : Reads Try.prog w 35 c) : ∃ p : OpI, c = p.enc ∧ p.Ok w := by
  obtain ⟨hl, hf⟩ := h.struct Try.underlying35
  have hc : Try.prog.cellsOf 35 = 5 := by kernel_rfl
  have h8 : Try.prog.cellsOf 5 = 1 := by kernel_rfl
  have hi : Try.prog.cellsOf 3 = 1 := by kernel_rfl
  have h3 : Try.prog.cellsOf 33 = 3 := by kernel_rfl
  rw [hc] at hl
  match c, hl with
  | [c0, c1, c2, c3, c4], _ =>
    simp only [List.mem_cons, List.not_mem_nil, or_false, forall_eq_or_imp, forall_eq, h8, hi, h3] at hf
    obtain ⟨k0, k1, k2⟩ := hf
    obtain ⟨x, hx, wx⟩ := k0.int Try.underlying5
    obtain ⟨y, hy, _⟩ := k1.int Try.underlying3
    obtain ⟨f, t, a, len, cap, xs, hz, e1, e2, e3, e4, e5⟩ := letter_reads k2
    simp at hx hy hz
    obtain ⟨rfl, rfl, rfl⟩ := hz
    subst hx hy
    obtain ⟨b0, b1⟩ := bounds_u8 wx
    simp only [maxLen] at e3
    refine ⟨⟨x.toNat, y, f, t, a, len, cap, xs⟩, ?_, ⟨e4, e1, e2, by dsimp only; omega, by dsimp only; omega⟩⟩
    unfold OpI.enc
    rw [Int.toNat_of_nonneg b0]
theorem ops_of {w : World} {v : Value} {r : Reach} {base : Nat} (hok : Value.okWide Try.prog w r base 22 v) (h : Reads Try.prog w 22 v.cells.toList) :
    ∃ ap cp0 ps, v = .slice ap ps.length cp0 ∧ ps.length ≤ 9223372036854775807 ∧ (∀ p ∈ ps, p.Ok w) ∧ SlF OpI.enc w ap ps := by
  obtain ⟨a, len, cap, rfl⟩ := WideShapes.okWide_slice Try.underlying22 hok
  have h' : Reads Try.prog w 22 [.slice a len cap] := h
  obtain ⟨ps, h1, h2, h3, h4, h5⟩ := h'.rows Try.underlying22 (sz := 5) (by kernel_rfl) (by omega) OpI.enc (fun p => p.Ok w) (fun c hc => op_reads hc)
  subst h1
  exact ⟨a, cap, ps, rfl, by simp only [maxLen] at h3; omega, h5, h4⟩
def smo : List OpI → Nat
  | [] => 0
  | p :: ps => min p.len 20000 + smo ps
theorem smo_snoc (ps : List OpI) (p : OpI) : smo (ps ++ [p]) = smo ps + min p.len 20000 := by
  induction ps with
  | nil => simp [smo]
  | cons q ps ih => simp only [List.cons_append, smo, ih]; omega
theorem smo_take {ps : List OpI} {i : Nat} {p : OpI} (h : ps[i]? = some p) : smo (ps.take (i + 1)) = smo (ps.take i) + min p.len 20000 := by
  rw [List.take_add_one, h]; exact smo_snoc _ _
theorem smo_le (ps : List OpI) : smo ps ≤ 20000 * ps.length := by
  induction ps with
  | nil => simp [smo]
  | cons p ps ih => simp only [smo, List.length_cons]; omega
set_option maxRecDepth 100000 in
set_option maxHeartbeats 4000000 in
theorem few_c (ps : List OpI) (ap : Option Addr) (cp0 : Nat) (w : World) (hbig : ps.length ≤ 9223372036854775807) (hps : ∀ p ∈ ps, p.Ok w) (hO : SlF OpI.enc w ap ps) :
    CA Try.prog 13 [.slice ap ps.length cp0] w (RV (.bool (decide (ps.length ≤ 300 ∧ smo (ps.take 400) ≤ 60000))) w) := by
  refine enter (L := []) (X := []) Try.func13 rfl Try.ntmps13 rfl rfl (Has.nil _) ?_
  repeat (first | refine c_seq ?_ | (refine c_region (id := 0) ?_; refine st_q (by exact q_assign rfl) rfl ?_; refine l_nil ?_) | (refine c_region (id := 1) ?_; refine st_q (by exact q_assign rfl) rfl ?_; refine l_nil ?_) | (refine c_region (id := 2) ?_; refine st_q (by exact q_assign rfl) rfl ?_; refine l_nil ?_) | refine n_then ?_ | refine c_block ?_ | refine c_skip ?_ | refine n_block ?_ | refine c_exit ?_ | refine n_then_exit ?_ | refine n_block_eq ?_ | refine n_block_ne rfl ?_ | refine c_ret ?_ | refine n_then_ret ?_ | refine n_block_ret ?_ | refine c_cond_t rfl ?_ | refine c_cond_f rfl ?_ | refine r_succ ?_ )
  refine c_loop (γ := Nat) (fun z => [(4, .int .i64 ((z : Nat) : Int)), (3, .int .i64 ((smo (ps.take z) : Nat) : Int)), (0, .slice ap ps.length cp0)]) (fun _ => w.heap.size) (fun _ => []) (fun z => z ≤ ps.length ∧ z ≤ 400) (fun z => ps.length - z) 0 (by omega) ⟨rfl, rfl, rfl, trivial⟩ rfl (by (repeat (first | exact List.Sublist.slnil | apply List.Sublist.cons_cons | exact List.Sublist.refl _ | apply List.Sublist.cons))) ?_
  intro i hi
  have hi' : i ≤ ps.length ∧ i ≤ 400 := hi
  obtain ⟨hi1, hi2⟩ := hi'
  by_cases h1 : i < ps.length
  · by_cases h2 : i < 400
    · obtain ⟨p, hpi⟩ : ∃ p, ps[i]? = some p := ⟨_, List.getElem?_eq_getElem h1⟩
      have hpl := (hps p (List.mem_of_getElem? hpi)).m
      obtain ⟨g, o, rfl, hOk⟩ := hO.get h1
      have hz : nth (ps.flatMap OpI.enc) (i * 5 + 4) = some (.slice p.a p.len p.cap) := by rw [flat_nth OpI.enc_len hpi (by omega)]; rfl
      have hsn := smo_take hpi
      have hsl := smo_le (ps.take i)
      have htl : (ps.take i).length ≤ i := List.length_take_le _ _
      obtain ⟨s, hs⟩ : ∃ s, s = smo (ps.take i) := ⟨_, rfl⟩
      rw [← hs] at hsn hsl ⊢
      repeat (first | refine c_seq ?_ | (refine c_region (id := 3) ?_; refine st_q (by exact q_move rfl) rfl ?_; refine st_q (by exact q_move rfl) rfl ?_; refine st_q (by (first | exact q_len_sl rfl | exact q_len_str rfl)) rfl ?_; refine st_q (by (first | exact Qt.cast (congrArg Value.bool (decide_eq_true (by omega))) (q_lss rfl rfl) | exact Qt.cast (congrArg Value.bool (decide_eq_false (by omega))) (q_lss rfl rfl))) rfl ?_; refine st_q (by exact q_move rfl) rfl ?_; (first | refine st_skip rfl rfl rfl ?_ | refine st_skipv rfl (by rfl) rfl ?_ | (refine st_want rfl rfl ?_; refine st_q (by exact q_move rfl) rfl ?_)); (first | refine st_skip rfl rfl rfl ?_ | refine st_skipv rfl (by rfl) rfl ?_ | (refine st_want rfl rfl ?_; refine st_q (by (first | exact Qt.cast (congrArg Value.bool (decide_eq_true (by omega))) (q_lss rfl rfl) | exact Qt.cast (congrArg Value.bool (decide_eq_false (by omega))) (q_lss rfl rfl))) rfl ?_)); refine st_q (by (first | exact q_pick_t rfl rfl | exact q_pick_f rfl rfl)) rfl ?_; refine l_nil ?_) | (refine c_region (id := 4) ?_; refine st_q (by exact q_move rfl) rfl ?_; refine st_q (by exact q_add64 rfl rfl ⟨by omega, by omega⟩ (by first | (simp only [Nat.zero_add, Nat.add_zero, Nat.mul_one, Nat.one_mul, Int.toNat_natCast, Int.reduceToNat, Nat.reduceMul, Nat.reduceAdd, Nat.reduceSub, Int.reduceAdd, Int.reduceSub, Int.reduceMul, Nat.sub_zero, Int.toNat_zero, Int.zero_add, Int.add_zero, Int.sub_zero, Int.mul_one, Int.one_mul]; try exact rfl) | exact rfl)) rfl ?_; refine st_q (by exact q_assign rfl) rfl ?_; refine l_nil ?_) | (refine c_region (id := 5) ?_; refine st_q (by exact q_move rfl) rfl ?_; refine st_q (by exact q_move rfl) rfl ?_; refine st_q (by exact q_move rfl) rfl ?_; refine st_q (by exact q_indexAddr_sl (o' := o + i * 5) rfl rfl (by omega) (by omega) (by omega)) rfl ?_; refine st_q (by exact q_fieldAddrP rfl (by rfl) (by rfl) (by first | (simp only [Nat.zero_add, Nat.add_zero, Nat.mul_one, Nat.one_mul, Int.toNat_natCast, Int.reduceToNat, Nat.reduceMul, Nat.reduceAdd, Nat.reduceSub, Int.reduceAdd, Int.reduceSub, Int.reduceMul, Nat.sub_zero, Int.toNat_zero, Int.zero_add, Int.add_zero, Int.sub_zero, Int.mul_one, Int.one_mul]; try exact rfl) | exact rfl)) rfl ?_; refine st_q (by exact q_fieldAddrP rfl (by rfl) (by rfl) (by first | (simp only [Nat.zero_add, Nat.add_zero, Nat.mul_one, Nat.one_mul, Int.toNat_natCast, Int.reduceToNat, Nat.reduceMul, Nat.reduceAdd, Nat.reduceSub, Int.reduceAdd, Int.reduceSub, Int.reduceMul, Nat.sub_zero, Int.toNat_zero, Int.zero_add, Int.add_zero, Int.sub_zero, Int.mul_one, Int.one_mul]; try exact rfl) | exact rfl)) rfl ?_; refine st_q (by exact q_load rfl (by have h9 := Rd.oldn (X := []) (L := []) hOk hz (by simp); rw [show o + (i * 5 + 4) = o + i * 5 + 2 + 2 by omega] at h9; exact h9)) rfl ?_; refine st_q (by (first | exact q_len_sl rfl | exact q_len_str rfl)) rfl ?_; refine st_q (by exact Qt.cast (v' := .int .i64 ((min p.len 20000 : Nat) : Int)) (congrArg (Value.int .i64) (by split <;> omega)) (q_min rfl rfl)) rfl ?_; refine st_q (by exact Qt.cast (v' := .int .i64 ((s + min p.len 20000 : Nat) : Int)) (congrArg (Value.int .i64) (by omega)) (q_add64 rfl rfl ⟨by omega, by omega⟩ rfl)) rfl ?_; refine st_q (by exact q_assign rfl) rfl ?_; refine l_nil ?_) | refine n_then ?_ | refine c_block ?_ | refine c_skip ?_ | refine n_block ?_ | refine c_exit ?_ | refine n_then_exit ?_ | refine n_block_eq ?_ | refine n_block_ne rfl ?_ | refine c_ret ?_ | refine n_then_ret ?_ | refine n_block_ret ?_ | refine c_cond_t rfl ?_ | refine c_cond_f rfl ?_ | refine r_succ ?_ )
      refine c_round (γ := Nat) (i + 1) ?_ ?_ ?_ ?_ ?_
      · show i + 1 ≤ ps.length ∧ i + 1 ≤ 400; omega
      · show ps.length - (i + 1) < ps.length - i; omega
      · rw [hsn]; exact ⟨rfl, rfl, rfl, trivial⟩
      · rfl
      · exact (by (repeat (first | exact List.Sublist.slnil | apply List.Sublist.cons_cons | exact List.Sublist.refl _ | apply List.Sublist.cons)))
    · obtain rfl : i = 400 := by omega
      repeat (first | refine c_seq ?_ | (refine c_region (id := 3) ?_; refine st_q (by exact q_move rfl) rfl ?_; refine st_q (by exact q_move rfl) rfl ?_; refine st_q (by (first | exact q_len_sl rfl | exact q_len_str rfl)) rfl ?_; refine st_q (by (first | exact Qt.cast (congrArg Value.bool (decide_eq_true (by omega))) (q_lss rfl rfl) | exact Qt.cast (congrArg Value.bool (decide_eq_false (by omega))) (q_lss rfl rfl))) rfl ?_; refine st_q (by exact q_move rfl) rfl ?_; (first | refine st_skip rfl rfl rfl ?_ | refine st_skipv rfl (by rfl) rfl ?_ | (refine st_want rfl rfl ?_; refine st_q (by exact q_move rfl) rfl ?_)); (first | refine st_skip rfl rfl rfl ?_ | refine st_skipv rfl (by rfl) rfl ?_ | (refine st_want rfl rfl ?_; refine st_q (by (first | exact Qt.cast (congrArg Value.bool (decide_eq_true (by omega))) (q_lss rfl rfl) | exact Qt.cast (congrArg Value.bool (decide_eq_false (by omega))) (q_lss rfl rfl))) rfl ?_)); refine st_q (by (first | exact q_pick_t rfl rfl | exact q_pick_f rfl rfl)) rfl ?_; refine l_nil ?_) | refine n_then ?_ | refine c_block ?_ | refine c_skip ?_ | refine n_block ?_ | refine c_exit ?_ | refine n_then_exit ?_ | refine n_block_eq ?_ | refine n_block_ne rfl ?_ | refine c_ret ?_ | refine n_then_ret ?_ | refine n_block_ret ?_ | refine c_cond_t rfl ?_ | refine c_cond_f rfl ?_ | refine r_succ ?_ )
      have hd : decide (ps.length ≤ 300 ∧ smo (ps.take 400) ≤ 60000) = false := by rw [decide_eq_false_iff_not]; omega
      rw [hd]
      repeat (first | refine c_seq ?_ | (refine c_region (id := 6) ?_; refine st_q (by exact q_move rfl) rfl ?_; refine st_q (by (first | exact q_len_sl rfl | exact q_len_str rfl)) rfl ?_; refine st_q (by (first | exact Qt.cast (congrArg Value.bool (decide_eq_true (by omega))) (q_leq rfl rfl) | exact Qt.cast (congrArg Value.bool (decide_eq_false (by omega))) (q_leq rfl rfl))) rfl ?_; refine st_q (by exact q_move rfl) rfl ?_; (first | refine st_skip rfl rfl rfl ?_ | refine st_skipv rfl (by rfl) rfl ?_ | (refine st_want rfl rfl ?_; refine st_q (by exact q_move rfl) rfl ?_)); (first | refine st_skip rfl rfl rfl ?_ | refine st_skipv rfl (by rfl) rfl ?_ | (refine st_want rfl rfl ?_; refine st_q (by (first | exact Qt.cast (congrArg Value.bool (decide_eq_true (by omega))) (q_leq rfl rfl) | exact Qt.cast (congrArg Value.bool (decide_eq_false (by omega))) (q_leq rfl rfl))) rfl ?_)); refine st_q (by (first | exact q_pick_t rfl rfl | exact q_pick_f rfl rfl)) rfl ?_; refine st_q (by exact q_assign rfl) rfl ?_; refine l_nil ?_) | refine n_then ?_ | refine c_block ?_ | refine c_skip ?_ | refine n_block ?_ | refine c_exit ?_ | refine n_then_exit ?_ | refine n_block_eq ?_ | refine n_block_ne rfl ?_ | refine c_ret ?_ | refine n_then_ret ?_ | refine n_block_ret ?_ | refine c_cond_t rfl ?_ | refine c_cond_f rfl ?_ | refine r_succ ?_ )
      (first | apply r_ret () | apply r_end ()); exact rfl; exact rfl; exact (.tmp rfl .nil); exact rfl; exact (List.nil_sublist _); exact new_nil; exact trivial
  · obtain rfl : i = ps.length := by omega
    repeat (first | refine c_seq ?_ | (refine c_region (id := 3) ?_; refine st_q (by exact q_move rfl) rfl ?_; refine st_q (by exact q_move rfl) rfl ?_; refine st_q (by (first | exact q_len_sl rfl | exact q_len_str rfl)) rfl ?_; refine st_q (by (first | exact Qt.cast (congrArg Value.bool (decide_eq_true (by omega))) (q_lss rfl rfl) | exact Qt.cast (congrArg Value.bool (decide_eq_false (by omega))) (q_lss rfl rfl))) rfl ?_; refine st_q (by exact q_move rfl) rfl ?_; (first | refine st_skip rfl rfl rfl ?_ | refine st_skipv rfl (by rfl) rfl ?_ | (refine st_want rfl rfl ?_; refine st_q (by exact q_move rfl) rfl ?_)); (first | refine st_skip rfl rfl rfl ?_ | refine st_skipv rfl (by rfl) rfl ?_ | (refine st_want rfl rfl ?_; refine st_q (by (first | exact Qt.cast (congrArg Value.bool (decide_eq_true (by omega))) (q_lss rfl rfl) | exact Qt.cast (congrArg Value.bool (decide_eq_false (by omega))) (q_lss rfl rfl))) rfl ?_)); refine st_q (by (first | exact q_pick_t rfl rfl | exact q_pick_f rfl rfl)) rfl ?_; refine l_nil ?_) | refine n_then ?_ | refine c_block ?_ | refine c_skip ?_ | refine n_block ?_ | refine c_exit ?_ | refine n_then_exit ?_ | refine n_block_eq ?_ | refine n_block_ne rfl ?_ | refine c_ret ?_ | refine n_then_ret ?_ | refine n_block_ret ?_ | refine c_cond_t rfl ?_ | refine c_cond_f rfl ?_ | refine r_succ ?_ )
    have htk : ps.take 400 = ps := List.take_of_length_le (by omega)
    rw [htk]
    rw [List.take_length]
    by_cases h8 : ps.length ≤ 300
    · by_cases h25 : smo ps ≤ 60000
      · rw [decide_eq_true (show ps.length ≤ 300 ∧ smo ps ≤ 60000 from ⟨h8, h25⟩)]
        repeat (first | refine c_seq ?_ | (refine c_region (id := 6) ?_; refine st_q (by exact q_move rfl) rfl ?_; refine st_q (by (first | exact q_len_sl rfl | exact q_len_str rfl)) rfl ?_; refine st_q (by (first | exact Qt.cast (congrArg Value.bool (decide_eq_true (by omega))) (q_leq rfl rfl) | exact Qt.cast (congrArg Value.bool (decide_eq_false (by omega))) (q_leq rfl rfl))) rfl ?_; refine st_q (by exact q_move rfl) rfl ?_; (first | refine st_skip rfl rfl rfl ?_ | refine st_skipv rfl (by rfl) rfl ?_ | (refine st_want rfl rfl ?_; refine st_q (by exact q_move rfl) rfl ?_)); (first | refine st_skip rfl rfl rfl ?_ | refine st_skipv rfl (by rfl) rfl ?_ | (refine st_want rfl rfl ?_; refine st_q (by (first | exact Qt.cast (congrArg Value.bool (decide_eq_true (by omega))) (q_leq rfl rfl) | exact Qt.cast (congrArg Value.bool (decide_eq_false (by omega))) (q_leq rfl rfl))) rfl ?_)); refine st_q (by (first | exact q_pick_t rfl rfl | exact q_pick_f rfl rfl)) rfl ?_; refine st_q (by exact q_assign rfl) rfl ?_; refine l_nil ?_) | refine n_then ?_ | refine c_block ?_ | refine c_skip ?_ | refine n_block ?_ | refine c_exit ?_ | refine n_then_exit ?_ | refine n_block_eq ?_ | refine n_block_ne rfl ?_ | refine c_ret ?_ | refine n_then_ret ?_ | refine n_block_ret ?_ | refine c_cond_t rfl ?_ | refine c_cond_f rfl ?_ | refine r_succ ?_ )
        (first | apply r_ret () | apply r_end ()); exact rfl; exact rfl; exact (.tmp rfl .nil); exact rfl; exact (List.nil_sublist _); exact new_nil; exact trivial
      · rw [decide_eq_false (show ¬(ps.length ≤ 300 ∧ smo ps ≤ 60000) by omega)]
        repeat (first | refine c_seq ?_ | (refine c_region (id := 6) ?_; refine st_q (by exact q_move rfl) rfl ?_; refine st_q (by (first | exact q_len_sl rfl | exact q_len_str rfl)) rfl ?_; refine st_q (by (first | exact Qt.cast (congrArg Value.bool (decide_eq_true (by omega))) (q_leq rfl rfl) | exact Qt.cast (congrArg Value.bool (decide_eq_false (by omega))) (q_leq rfl rfl))) rfl ?_; refine st_q (by exact q_move rfl) rfl ?_; (first | refine st_skip rfl rfl rfl ?_ | refine st_skipv rfl (by rfl) rfl ?_ | (refine st_want rfl rfl ?_; refine st_q (by exact q_move rfl) rfl ?_)); (first | refine st_skip rfl rfl rfl ?_ | refine st_skipv rfl (by rfl) rfl ?_ | (refine st_want rfl rfl ?_; refine st_q (by (first | exact Qt.cast (congrArg Value.bool (decide_eq_true (by omega))) (q_leq rfl rfl) | exact Qt.cast (congrArg Value.bool (decide_eq_false (by omega))) (q_leq rfl rfl))) rfl ?_)); refine st_q (by (first | exact q_pick_t rfl rfl | exact q_pick_f rfl rfl)) rfl ?_; refine st_q (by exact q_assign rfl) rfl ?_; refine l_nil ?_) | refine n_then ?_ | refine c_block ?_ | refine c_skip ?_ | refine n_block ?_ | refine c_exit ?_ | refine n_then_exit ?_ | refine n_block_eq ?_ | refine n_block_ne rfl ?_ | refine c_ret ?_ | refine n_then_ret ?_ | refine n_block_ret ?_ | refine c_cond_t rfl ?_ | refine c_cond_f rfl ?_ | refine r_succ ?_ )
        (first | apply r_ret () | apply r_end ()); exact rfl; exact rfl; exact (.tmp rfl .nil); exact rfl; exact (List.nil_sublist _); exact new_nil; exact trivial
    · rw [decide_eq_false (show ¬(ps.length ≤ 300 ∧ smo ps ≤ 60000) by omega)]
      repeat (first | refine c_seq ?_ | (refine c_region (id := 6) ?_; refine st_q (by exact q_move rfl) rfl ?_; refine st_q (by (first | exact q_len_sl rfl | exact q_len_str rfl)) rfl ?_; refine st_q (by (first | exact Qt.cast (congrArg Value.bool (decide_eq_true (by omega))) (q_leq rfl rfl) | exact Qt.cast (congrArg Value.bool (decide_eq_false (by omega))) (q_leq rfl rfl))) rfl ?_; refine st_q (by exact q_move rfl) rfl ?_; (first | refine st_skip rfl rfl rfl ?_ | refine st_skipv rfl (by rfl) rfl ?_ | (refine st_want rfl rfl ?_; refine st_q (by exact q_move rfl) rfl ?_)); (first | refine st_skip rfl rfl rfl ?_ | refine st_skipv rfl (by rfl) rfl ?_ | (refine st_want rfl rfl ?_; refine st_q (by (first | exact Qt.cast (congrArg Value.bool (decide_eq_true (by omega))) (q_leq rfl rfl) | exact Qt.cast (congrArg Value.bool (decide_eq_false (by omega))) (q_leq rfl rfl))) rfl ?_)); refine st_q (by (first | exact q_pick_t rfl rfl | exact q_pick_f rfl rfl)) rfl ?_; refine st_q (by exact q_assign rfl) rfl ?_; refine l_nil ?_) | refine n_then ?_ | refine c_block ?_ | refine c_skip ?_ | refine n_block ?_ | refine c_exit ?_ | refine n_then_exit ?_ | refine n_block_eq ?_ | refine n_block_ne rfl ?_ | refine c_ret ?_ | refine n_then_ret ?_ | refine n_block_ret ?_ | refine c_cond_t rfl ?_ | refine c_cond_f rfl ?_ | refine r_succ ?_ )
      (first | apply r_ret () | apply r_end ()); exact rfl; exact rfl; exact (.tmp rfl .nil); exact rfl; exact (List.nil_sublist _); exact new_nil; exact trivial
end Go.Proofs.Ytlcckgimagllaaa
