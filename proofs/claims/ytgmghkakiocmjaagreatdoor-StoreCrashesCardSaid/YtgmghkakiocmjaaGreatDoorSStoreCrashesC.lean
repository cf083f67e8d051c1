/- StoreCrashes: what it needs, part 3. -/
import Derived.Test.YtgmghkakiocmjaaGreatDoorSStoreCrashesB
namespace Go.Proofs.YtgmghkakiocmjaaGreatDoor
open Go Go.RowKit
set_option linter.unusedVariables false
set_option linter.unusedSimpArgs false
structure HdK (h : Hd) : Prop where
  ser : 0 ≤ h.ser ∧ h.ser ≤ 18446744073709551615
  cnt : 0 ≤ h.cnt ∧ h.cnt ≤ 18446744073709551615
  nt : RB h.nt
  hi : ∀ j, 16 ≤ j → h.nt j = 0
theorem RB.zero : RB (fun _ => 0) := ⟨fun _ => by omega⟩
theorem hdZ_K : HdK hdZ := ⟨by decide, by decide, RB.zero, fun _ _ => rfl⟩
theorem hdOf_K {F : Nat → Int} (hF : RB F) : HdK (hdOf F) := by
  have h1 := numB_rng hF 0 8
  have h2 := numB_rng hF 8 8
  have e : (256 : Int) ^ 8 = 18446744073709551616 := by decide
  rw [e] at h1 h2
  refine ⟨⟨h1.1, by have := h1.2; simp only [hdOf]; omega⟩, ⟨h2.1, by have := h2.2; simp only [hdOf]; omega⟩, ⟨fun j => ?_⟩, fun j hj => ?_⟩
  · simp only [hdOf]
    split
    · exact hF.h _
    · omega
  · simp only [hdOf]
    rw [if_neg (by omega)]
theorem shN_rng (x : Int) (i : Nat) : 0 ≤ shN x i ∧ shN x i ≤ 255 := by
  unfold shN; omega
theorem secH_RB {h : Hd} (hk : HdK h) : RB (secH h) := by
  refine ⟨fun j => ?_⟩
  unfold secH
  rw [List.getD_eq_getElem?_getD]
  cases hg : (halfL h)[j % 32]? with
  | none => simp
  | some v =>
    have hm : v ∈ halfL h := List.mem_of_getElem? hg
    rw [Option.getD_some]
    unfold halfL at hm
    simp only [List.mem_cons, List.not_mem_nil, or_false] at hm
    rcases hm with rfl | rfl | rfl | rfl | rfl | rfl | rfl | rfl | rfl | rfl | rfl | rfl | rfl | rfl | rfl | rfl | rfl | rfl | rfl | rfl | rfl | rfl | rfl | rfl | rfl | rfl | rfl | rfl | rfl | rfl | rfl | rfl
    · exact shN_rng _ _
    · exact shN_rng _ _
    · exact shN_rng _ _
    · exact shN_rng _ _
    · exact shN_rng _ _
    · exact shN_rng _ _
    · exact shN_rng _ _
    · exact shN_rng _ _
    · exact shN_rng _ _
    · exact shN_rng _ _
    · exact shN_rng _ _
    · exact shN_rng _ _
    · exact shN_rng _ _
    · exact shN_rng _ _
    · exact shN_rng _ _
    · exact shN_rng _ _
    · exact hk.nt.h _
    · exact hk.nt.h _
    · exact hk.nt.h _
    · exact hk.nt.h _
    · exact hk.nt.h _
    · exact hk.nt.h _
    · exact hk.nt.h _
    · exact hk.nt.h _
    · exact hk.nt.h _
    · exact hk.nt.h _
    · exact hk.nt.h _
    · exact hk.nt.h _
    · exact hk.nt.h _
    · exact hk.nt.h _
    · exact hk.nt.h _
    · exact hk.nt.h _
theorem secH_S (h : Hd) : hdS (secH h) := by
  intro j hj
  unfold secH
  rw [show (32 + j) % 32 = j % 32 by omega]
theorem sh0 (x : Int) : shN x 0 = x % 256 := by
  show x / 1 % 256 = _; omega
theorem sh1 (x : Int) : shN x 1 = x / 256 % 256 := rfl
theorem sh2 (x : Int) : shN x 2 = x / 65536 % 256 := rfl
theorem sh3 (x : Int) : shN x 3 = x / 16777216 % 256 := rfl
theorem sh4 (x : Int) : shN x 4 = x / 4294967296 % 256 := rfl
theorem sh5 (x : Int) : shN x 5 = x / 1099511627776 % 256 := rfl
theorem sh6 (x : Int) : shN x 6 = x / 281474976710656 % 256 := rfl
theorem sh7 (x : Int) : shN x 7 = x / 72057594037927936 % 256 := rfl
theorem numB8 (F : Nat → Int) (o : Nat) : numB F o 8 = (((((((F (o + 0) * 256 + F (o + 1)) * 256 + F (o + 2)) * 256 + F (o + 3)) * 256 + F (o + 4)) * 256 + F (o + 5)) * 256 + F (o + 6)) * 256 + F (o + 7)) := by
  simp only [numB]; omega
theorem num_back (x : Int) (hx : 0 ≤ x ∧ x ≤ 18446744073709551615) : ((((((shN x 7 * 256 + shN x 6) * 256 + shN x 5) * 256 + shN x 4) * 256 + shN x 3) * 256 + shN x 2) * 256 + shN x 1) * 256 + shN x 0 = x := by
  rw [sh0, sh1, sh2, sh3, sh4, sh5, sh6, sh7]
  have e7 : x / 72057594037927936 % 256 = x / 72057594037927936 := by omega
  have e6 : x / 72057594037927936 * 256 + x / 281474976710656 % 256 = x / 281474976710656 := by omega
  have e5 : x / 281474976710656 * 256 + x / 1099511627776 % 256 = x / 1099511627776 := by omega
  have e4 : x / 1099511627776 * 256 + x / 4294967296 % 256 = x / 4294967296 := by omega
  have e3 : x / 4294967296 * 256 + x / 16777216 % 256 = x / 16777216 := by omega
  have e2 : x / 16777216 * 256 + x / 65536 % 256 = x / 65536 := by omega
  have e1 : x / 65536 * 256 + x / 256 % 256 = x / 256 := by omega
  rw [e7, e6, e5, e4, e3, e2, e1]
  omega
theorem hdOf_secH {h : Hd} (hk : HdK h) : hdOf (secH h) = h := by
  obtain ⟨s, c, nt⟩ := h
  have h1 : numB (secH ⟨s, c, nt⟩) 0 8 = s := by
    rw [numB8]; exact num_back s hk.ser
  have h2 : numB (secH ⟨s, c, nt⟩) 8 8 = c := by
    rw [numB8]; exact num_back c hk.cnt
  have h3 : (fun j => if j < 16 then secH ⟨s, c, nt⟩ (16 + j) else 0) = nt := by
    funext j
    by_cases hj : j < 16
    · rw [if_pos hj]
      have : ∀ j, j < 16 → secH ⟨s, c, nt⟩ (16 + j) = nt j := by
        intro j hj
        match j, hj with
        | 0, _ => rfl
        | 1, _ => rfl
        | 2, _ => rfl
        | 3, _ => rfl
        | 4, _ => rfl
        | 5, _ => rfl
        | 6, _ => rfl
        | 7, _ => rfl
        | 8, _ => rfl
        | 9, _ => rfl
        | 10, _ => rfl
        | 11, _ => rfl
        | 12, _ => rfl
        | 13, _ => rfl
        | 14, _ => rfl
        | 15, _ => rfl
        | q + 16, h => exact absurd h (by omega)
      exact this j hj
    · rw [if_neg hj]; exact (hk.hi j (by omega)).symm
  unfold hdOf
  rw [h1, h2, h3]
abbrev lgC (gd fr room : Nat) (h : Hd) (s : Value) (ov : Bool) : Array Value := #[.pointer (some ⟨gd, 0, none⟩), .int .i64 fr, .int .i64 room, .int .u64 h.ser, .int .u64 h.cnt, .int .u8 (h.nt 0), .int .u8 (h.nt 1), .int .u8 (h.nt 2), .int .u8 (h.nt 3), .int .u8 (h.nt 4), .int .u8 (h.nt 5), .int .u8 (h.nt 6), .int .u8 (h.nt 7), .int .u8 (h.nt 8), .int .u8 (h.nt 9), .int .u8 (h.nt 10), .int .u8 (h.nt 11), .int .u8 (h.nt 12), .int .u8 (h.nt 13), .int .u8 (h.nt 14), .int .u8 (h.nt 15), s, .bool ov]
abbrev LgB (gl gd fr room : Nat) (h : Hd) (s : Value) (ov : Bool) : Chunk := .blk gl (.cells (lgC gd fr room h s ov) 88 (0, 0))
theorem lg_set (gd fr room : Nat) (h h' : Hd) (s : Value) (ov : Bool) : setA (lgC gd fr room h s ov) 3 (headE h').toArray.toList = lgC gd fr room h' s ov := by
  apply Array.ext'
  simp only [lgC, setA, noteE, Array.toList_setIfInBounds, ← setL_eq, setL, Nat.reduceAdd]
set_option maxRecDepth 100000 in
set_option maxHeartbeats 4000000 in
theorem serial_c (gl gd fr room : Nat) (h : Hd) (s : Value) (ov : Bool) (w : World) (hL0 : Has [LgB gl gd fr room h s ov] w) : CA Tryz.prog 28 [.pointer (some ⟨gl, 0, none⟩)] w (RV (.int .u64 h.ser) w) := by
  refine enter (L := [LgB gl gd fr room h s ov]) (X := []) Tryz.func28 rfl Tryz.ntmps28 rfl rfl hL0 ?_
  repeat (first | refine c_seq ?_ | (refine c_region (id := 0) ?_; refine sq qa ?_; refine l_nil ?_) | (refine c_region (id := 1) ?_; refine sq qm ?_; refine sq qn ?_; refine sq qf ?_; refine sq qf ?_; refine sq ql ?_; refine sq qa ?_; refine l_nil ?_) | refine n_then ?_ | refine c_block ?_ | refine c_skip ?_ | refine n_block ?_ | refine c_exit ?_ | refine n_then_exit ?_ | refine n_block_eq ?_ | refine n_block_ne rfl ?_ | refine c_ret ?_ | refine n_then_ret ?_ | refine n_block_ret ?_ | refine c_cond_t rfl ?_ | refine c_cond_f rfl ?_ | refine r_succ ?_ )
  (first | apply r_ret () | apply r_end ()); exact rfl; exact rfl; exact (.tmp rfl .nil); exact rfl; exact (List.nil_sublist _); exact new_nil; exact trivial
set_option maxRecDepth 100000 in
set_option maxHeartbeats 4000000 in
theorem note_c (gl gd fr room : Nat) (h : Hd) (s : Value) (ov : Bool) (w : World) (hL0 : Has [LgB gl gd fr room h s ov] w) : CA Tryz.prog 30 [.pointer (some ⟨gl, 0, none⟩)] w (RV (.agg (noteE h.nt).toArray) w) := by
  refine enter (L := [LgB gl gd fr room h s ov]) (X := []) Tryz.func30 rfl Tryz.ntmps30 rfl rfl hL0 ?_
  repeat (first | refine c_seq ?_ | (refine c_region (id := 0) ?_; refine se ?_; refine ea ?_; refine l_nil ?_) | (refine c_region (id := 1) ?_; refine sq qm ?_; refine sq qn ?_; refine sq qf ?_; refine sq qf ?_; refine sq (by exact qlr (vs := noteE h.nt) (hr := RdN.blk (by (repeat (first | exact List.Mem.head _ | apply List.Mem.tail))) (by rfl)) (hl := by rfl)) ?_; refine se ?_; refine esa ?_ (hk := by rfl) (ho := by rfl) (hoff := by rfl); refine l_nil ?_) | refine n_then ?_ | refine c_block ?_ | refine c_skip ?_ | refine n_block ?_ | refine c_exit ?_ | refine n_then_exit ?_ | refine n_block_eq ?_ | refine n_block_ne rfl ?_ | refine c_ret ?_ | refine n_then_ret ?_ | refine n_block_ret ?_ | refine c_cond_t rfl ?_ | refine c_cond_f rfl ?_ | refine r_succ ?_ )
  (first | apply r_ret () | apply r_end ()); exact rfl; exact rfl; exact (.row rfl (by (repeat (first | exact List.Mem.head _ | apply List.Mem.tail))) (by rfl) .nil); exact rfl; exact (List.nil_sublist _); exact new_nil; exact trivial
set_option maxRecDepth 100000 in
set_option maxHeartbeats 4000000 in
theorem room_c (gl gd fr room : Nat) (h : Hd) (b : Option Addr) (len cap : Nat) (ov : Bool) (hr : len ≤ room ∧ room ≤ 100000000) (w : World) (hL0 : Has [LgB gl gd fr room h (.slice b len cap) ov] w) : CA Tryz.prog 42 [.pointer (some ⟨gl, 0, none⟩)] w (RV (.int .i64 ((room : Int) - len)) w) := by
  refine enter (L := [LgB gl gd fr room h (.slice b len cap) ov]) (X := []) Tryz.func42 rfl Tryz.ntmps42 rfl rfl hL0 ?_
  repeat (first | refine c_seq ?_ | (refine c_region (id := 0) ?_; refine sq qa ?_; refine l_nil ?_) | (refine x_region (id := 1) none [(0, .n), (1, .n), (2, .n), (3, .q), (4, .n), (5, .n), (6, .n), (7, .q), (8, .n), (9, .n), (10, .n)] _ mixed (by kernel_rfl) (List.Sublist.refl _) ?_; refine xn rfl qm ?_; refine xn rfl qn ?_; refine xn rfl qf ?_; refine xq rfl ql ?_; refine xn rfl qm ?_; refine xn rfl qn ?_; refine xn rfl qf ?_; refine xq rfl ql ?_; refine xn rfl qls ?_; refine xn rfl qsub64 ?_; refine xn rfl qa ?_; refine x_nil ?_) | refine n_then ?_ | refine c_block ?_ | refine c_skip ?_ | refine n_block ?_ | refine c_exit ?_ | refine n_then_exit ?_ | refine n_block_eq ?_ | refine n_block_ne rfl ?_ | refine c_ret ?_ | refine n_then_ret ?_ | refine n_block_ret ?_ | refine c_cond_t rfl ?_ | refine c_cond_f rfl ?_ | refine r_succ ?_ )
  (first | apply r_ret () | apply r_end ()); exact rfl; exact rfl; exact (.tmp rfl .nil); exact rfl; exact (List.nil_sublist _); exact new_nil; exact trivial
set_option maxRecDepth 100000 in
set_option maxHeartbeats 4000000 in
theorem lover_c (gl gd fr room : Nat) (h : Hd) (s : Value) (ov : Bool) (w : World) (hL0 : Has [LgB gl gd fr room h s ov] w) : CA Tryz.prog 43 [.pointer (some ⟨gl, 0, none⟩)] w (RV (.bool ov) w) := by
  cases ov with
  | true =>
    refine enter (L := [LgB gl gd fr room h s true]) (X := []) Tryz.func43 rfl Tryz.ntmps43 rfl rfl hL0 ?_
    repeat (first | refine c_seq ?_ | (refine c_region (id := 0) ?_; refine sq qa ?_; refine l_nil ?_) | (refine c_region (id := 1) ?_; refine sq qm ?_; refine sq qn ?_; refine sq qf ?_; refine sq ql ?_; refine sq qm ?_; (first | refine sk ?_ | refine skv ?_ | (refine st_want rfl rfl ?_; refine sq qm ?_)); (first | refine sk ?_ | refine skv ?_ | (refine st_want rfl rfl ?_; refine sq qn ?_)); (first | refine sk ?_ | refine skv ?_ | (refine st_want rfl rfl ?_; refine sq qf ?_)); (first | refine sk ?_ | refine skv ?_ | (refine st_want rfl rfl ?_; refine sq ql ?_)); (first | refine sk ?_ | refine skv ?_ | (refine st_want rfl rfl ?_; refine sq (by exact q_eql_pnil rfl rfl (by kernel_rfl)) ?_)); refine sq (by first | exact qpt | exact qpf) ?_; refine sq qa ?_; refine l_nil ?_) | refine n_then ?_ | refine c_block ?_ | refine c_skip ?_ | refine n_block ?_ | refine c_exit ?_ | refine n_then_exit ?_ | refine n_block_eq ?_ | refine n_block_ne rfl ?_ | refine c_ret ?_ | refine n_then_ret ?_ | refine n_block_ret ?_ | refine c_cond_t rfl ?_ | refine c_cond_f rfl ?_ | refine r_succ ?_ )
    (first | apply r_ret () | apply r_end ()); exact rfl; exact rfl; exact (.tmp rfl .nil); exact rfl; exact (List.nil_sublist _); exact new_nil; exact trivial
  | false =>
    refine enter (L := [LgB gl gd fr room h s false]) (X := []) Tryz.func43 rfl Tryz.ntmps43 rfl rfl hL0 ?_
    repeat (first | refine c_seq ?_ | (refine c_region (id := 0) ?_; refine sq qa ?_; refine l_nil ?_) | (refine c_region (id := 1) ?_; refine sq qm ?_; refine sq qn ?_; refine sq qf ?_; refine sq ql ?_; refine sq qm ?_; (first | refine sk ?_ | refine skv ?_ | (refine st_want rfl rfl ?_; refine sq qm ?_)); (first | refine sk ?_ | refine skv ?_ | (refine st_want rfl rfl ?_; refine sq qn ?_)); (first | refine sk ?_ | refine skv ?_ | (refine st_want rfl rfl ?_; refine sq qf ?_)); (first | refine sk ?_ | refine skv ?_ | (refine st_want rfl rfl ?_; refine sq ql ?_)); (first | refine sk ?_ | refine skv ?_ | (refine st_want rfl rfl ?_; refine sq (by exact q_eql_pnil rfl rfl (by kernel_rfl)) ?_)); refine sq (by first | exact qpt | exact qpf) ?_; refine sq qa ?_; refine l_nil ?_) | refine n_then ?_ | refine c_block ?_ | refine c_skip ?_ | refine n_block ?_ | refine c_exit ?_ | refine n_then_exit ?_ | refine n_block_eq ?_ | refine n_block_ne rfl ?_ | refine c_ret ?_ | refine n_then_ret ?_ | refine n_block_ret ?_ | refine c_cond_t rfl ?_ | refine c_cond_f rfl ?_ | refine r_succ ?_ )
    (first | apply r_ret () | apply r_end ()); exact rfl; exact rfl; exact (.tmp rfl .nil); exact rfl; exact (List.nil_sublist _); exact new_nil; exact trivial
set_option maxRecDepth 100000 in
set_option maxHeartbeats 4000000 in
theorem lbytes_c (gl gd fr room : Nat) (h : Hd) (b : Option Addr) (cap : Nat) (ov : Bool) (xs : List Int) (hbig : xs.length ≤ 100000000) (w : World) (hs : SlE (Value.int .u8) w b xs) (hL0 : Has [LgB gl gd fr room h (.slice b xs.length cap) ov] w) : CA Tryz.prog 32 [.pointer (some ⟨gl, 0, none⟩)] w (RLe (Value.int .u8) 5 (fun zs => zs = xs) w) := by
  refine enter (L := [LgB gl gd fr room h (.slice b xs.length cap) ov]) (X := []) Tryz.func32 rfl Tryz.ntmps32 rfl rfl hL0 ?_
  repeat (first | refine c_seq ?_ | (refine c_region (id := 0) ?_; refine sq qa ?_; refine l_nil ?_) | (refine c_region (id := 1) ?_; refine sq qm ?_; refine sq qn ?_; refine sq qf ?_; refine sq ql ?_; refine se ?_; refine e_callL (enc := (Value.int .u8)) (e := 5) rfl rfl (by kernel_rfl) rfl (fun w hC hm hL => by exact clone_c b xs.length cap xs rfl hbig w (hs.ch0 hC)) ?_; intro b1 cap1 zs m1 hz1 ho1 hm1; refine sq qa ?_; refine l_nil ?_) | refine n_then ?_ | refine c_block ?_ | refine c_skip ?_ | refine n_block ?_ | refine c_exit ?_ | refine n_then_exit ?_ | refine n_block_eq ?_ | refine n_block_ne rfl ?_ | refine c_ret ?_ | refine n_then_ret ?_ | refine n_block_ret ?_ | refine c_cond_t rfl ?_ | refine c_cond_f rfl ?_ | refine r_succ ?_ )
  subst hz1
  (first | apply r_ret (b1, cap1, zs) | apply r_end (b1, cap1, zs)); exact rfl; exact rfl; exact (.tmp rfl .nil); exact rfl; exact (by exact (by (repeat (first | exact List.nil_sublist _ | exact List.Sublist.slnil | apply List.Sublist.cons_cons | exact List.Sublist.refl _ | apply List.Sublist.cons)))); exact (new_sl ho1.newc new_nil); exact ⟨by have h9 := ho1.ret; exact h9, rfl⟩
set_option maxRecDepth 100000 in
set_option maxHeartbeats 4000000 in
theorem ready_y (gl gd fr room : Nat) (h : Hd) (s : Value) (hser : 0 ≤ h.ser ∧ h.ser < 4611686018427387904) (w : World) (hL0 : Has [LgB gl gd fr room h s false] w) : CA Tryz.prog 51 [.pointer (some ⟨gl, 0, none⟩)] w (RV (.int .i64 0) w) := by
  refine enter (L := [LgB gl gd fr room h s false]) (X := []) Tryz.func51 rfl Tryz.ntmps51 rfl rfl hL0 ?_
  repeat (first | refine c_seq ?_ | (refine c_region (id := 0) ?_; refine sq qa ?_; refine l_nil ?_) | (refine c_region (id := 1) ?_; refine sq qm ?_; refine se ?_; refine ecp rfl rfl (fun w hC hm hL => by exact lover_c gl gd fr room h s false w (hL.sub (by (repeat (first | exact List.nil_sublist _ | exact List.Sublist.slnil | apply List.Sublist.cons_cons | exact List.Sublist.refl _ | apply List.Sublist.cons))))) ?_; intro m' hm'; refine l_nil ?_) | (refine c_region (id := 2) ?_; refine sq qa ?_; refine l_nil ?_) | (refine c_region (id := 3) ?_; refine sq qm ?_; refine sq qn ?_; refine sq qf ?_; refine sq qf ?_; refine sq ql ?_; refine sq (by first | exact dgeqt | exact dgeqf) ?_; refine l_nil ?_) | (refine c_region (id := 4) ?_; refine sq qa ?_; refine l_nil ?_) | (refine c_region (id := 5) ?_; refine sq qa ?_; refine l_nil ?_) | refine n_then ?_ | refine c_block ?_ | refine c_skip ?_ | refine n_block ?_ | refine c_exit ?_ | refine n_then_exit ?_ | refine n_block_eq ?_ | refine n_block_ne rfl ?_ | refine c_ret ?_ | refine n_then_ret ?_ | refine n_block_ret ?_ | refine c_cond_t rfl ?_ | refine c_cond_f rfl ?_ | refine r_succ ?_ )
  (first | apply r_ret () | apply r_end ()); exact rfl; exact rfl; exact (.tmp rfl .nil); exact rfl; exact (List.nil_sublist _); exact new_nil; exact trivial
set_option maxRecDepth 100000 in
set_option maxHeartbeats 4000000 in
theorem end_c (gl gd fr room : Nat) (h : Hd) (s : Value) (ov : Bool) (w : World) (hL0 : Has [LgB gl gd fr room h s ov] w) : CA Tryz.prog 54 [.pointer (some ⟨gl, 0, none⟩)] w (RU (.int .i64 5) gl (.cells (lgC gd fr room h s true) 88 (0, 0)) w) := by
  refine enter (L := [LgB gl gd fr room h s ov]) (X := [gl]) Tryz.func54 rfl Tryz.ntmps54 rfl rfl hL0 ?_
  repeat (first | refine c_seq ?_ | (refine c_region (id := 0) ?_; refine sq qa ?_; refine l_nil ?_) | (refine c_region (id := 1) ?_; refine sq qm ?_; refine sq qn ?_; refine sq qf ?_; refine se ?_; refine es1 ?_ (hg := .inl (by simp)); refine l_nil ?_) | (refine c_region (id := 2) ?_; refine sq qa ?_; refine l_nil ?_) | refine n_then ?_ | refine c_block ?_ | refine c_skip ?_ | refine n_block ?_ | refine c_exit ?_ | refine n_then_exit ?_ | refine n_block_eq ?_ | refine n_block_ne rfl ?_ | refine c_ret ?_ | refine n_then_ret ?_ | refine n_block_ret ?_ | refine c_cond_t rfl ?_ | refine c_cond_f rfl ?_ | refine r_succ ?_ )
  (first | apply r_ret () | apply r_end ()); exact rfl; exact rfl; exact (.tmp rfl .nil); exact rfl; exact (List.Sublist.refl _); exact (by intro g hg; simp [feet, Chunk.foot] at hg; exact .inl (by simp [hg])); exact trivial
end Go.Proofs.YtgmghkakiocmjaaGreatDoor
namespace Go.Proofs.YtgmghkakiocmjaaGreatDoor
open Go Go.RowKit
set_option linter.unusedVariables false
set_option linter.unusedSimpArgs false
instance (F : Nat → Int) : Decidable (hdS F) := by unfold hdS; infer_instance
def hdU (room p : Nat) (s : Hd) (F : Nat → Int) : Prop := hdS F ∧ (hdOf F).cnt ≤ room ∧ (hdOf F).ser % 2 = p ∧ s.ser ≤ (hdOf F).ser
instance (room p : Nat) (s : Hd) (F : Nat → Int) : Decidable (hdU room p s F) := by unfold hdU; infer_instance
def stepH (room p : Nat) (s : Hd) (F : Nat → Int) : Hd := if hdU room p s F then hdOf F else s
def stI (room : Nat) (Fs : Nat → Nat → Int) : Nat → Hd
  | 0 => hdZ
  | i + 1 => stepH room i (stI room Fs i) (Fs i)
theorem sec_old (F : Nat → Int) : (((secL F 64).map (Value.int .u8)).drop 0).take 64 = byS F 0 64 := by
  rw [List.drop_zero, List.take_of_length_le (by simp [secL_len])]
  simp [secL, byS, byI]
theorem stI_y {room : Nat} {Fs : Nat → Nat → Int} {i : Nat} (h : hdU room i (stI room Fs i) (Fs i)) : stI room Fs (i + 1) = hdOf (Fs i) := by rw [stI, stepH, if_pos h]
theorem stI_n {room : Nat} {Fs : Nat → Nat → Int} {i : Nat} (h : ¬ hdU room i (stI room Fs i) (Fs i)) : stI room Fs (i + 1) = stI room Fs i := by rw [stI, stepH, if_neg h]
set_option maxRecDepth 100000 in
set_option maxHeartbeats 4000000 in
theorem heads_c (gl gd gw gm fr room : Nat) (s : Value) (ov : Bool) (Fs : Nat → Nat → Int) (hfr : fr ≤ 16384) (hroom : room ≤ 100000000) (D : Dk) (hgo : D.gone = false) (hn6 : D.secs.length ≤ 16384) (hF : ∀ i, i < 2 → D.secs[fr + i]? = some (Fs i)) (hRB : ∀ i, i < 2 → RB (Fs i)) (w : World) (hL0 : Has (LgB gl gd fr room hdZ s ov :: DskL gd gw gm D) w) :
    CA Tryz.prog 44 [.pointer (some ⟨gl, 0, none⟩)] w (RU (.int .i64 0) gl (.cells (lgC gd fr room (stI room Fs 2) s ov) 88 (0, 0)) w) := by
  refine enter (L := (LgB gl gd fr room hdZ s ov :: DskL gd gw gm D)) (X := [gl]) Tryz.func44 rfl Tryz.ntmps44 rfl rfl hL0 ?_
  repeat (first | refine c_seq ?_ | (refine c_region (id := 0) ?_; refine sq qa ?_; refine l_nil ?_) | (refine c_region (id := 1) ?_; refine sq qm ?_; refine l_nil ?_) | refine n_then ?_ | refine c_block ?_ | refine c_skip ?_ | refine n_block ?_ | refine c_exit ?_ | refine n_then_exit ?_ | refine n_block_eq ?_ | refine n_block_ne rfl ?_ | refine c_ret ?_ | refine n_then_ret ?_ | refine n_block_ret ?_ | refine c_cond_t rfl ?_ | refine c_cond_f rfl ?_ | refine r_succ ?_ )
  refine c_loop (γ := Nat × Nat) (fun z => [(8, .int .i64 z.1), (0, .pointer (some ⟨gl, 0, none⟩)), (2, .int .i64 0)]) (fun z => z.2) (fun z => (LgB gl gd fr room (stI room Fs z.1) s ov :: DskL gd gw gm D)) (fun z => z.1 ≤ 2 ∧ w.heap.size ≤ z.2) (fun z => 2 - z.1) ⟨0, w.heap.size⟩ ⟨by simp, Nat.le_refl _⟩ ⟨rfl, rfl, rfl, trivial⟩ rfl (List.Sublist.refl _) ?_
  rintro ⟨i, mm⟩ ⟨hi, hmm⟩
  dsimp only at hi hmm ⊢
  by_cases hi2 : i < 2
  · have hFi := hF i hi2
    have hk := hdOf_K (hRB i hi2)
    have hse := hk.ser.1
    have hse2 := hk.ser.2
    have hcn := hk.cnt
    by_cases hS : hdS (Fs i)
    · by_cases hc : (hdOf (Fs i)).cnt ≤ room
      · by_cases hp : (hdOf (Fs i)).ser % 2 = i
        · by_cases hg : (stI room Fs i).ser ≤ (hdOf (Fs i)).ser
          · have e9 := stI_y ⟨hS, hc, hp, hg⟩
            repeat (first | refine c_seq ?_ | (refine c_region (id := 2) ?_; refine sq (by first | exact dlsst | exact dlssf) ?_; refine l_nil ?_) | (refine c_region (id := 3) ?_; refine sq qm ?_; refine sq qa ?_; refine l_nil ?_) | (refine x_region (id := 4) none [(0, .n), (1, .n), (2, .n), (3, .q), (4, .n), (5, .n), (6, .n), (7, .q), (8, .n), (9, .n), (10, .e), (11, .n), (12, .n), (13, .n), (14, .n), (15, .n)] _ mixed (by kernel_rfl) (List.Sublist.refl _) ?_; refine xn rfl qm ?_; refine xn rfl qn ?_; refine xn rfl qf ?_; refine xq rfl ql ?_; refine xn rfl qm ?_; refine xn rfl qn ?_; refine xn rfl qf ?_; refine xq rfl ql ?_; refine xn rfl qm ?_; refine xn rfl (by exact Qt.cast (v' := .int .i64 ((fr + i : Nat) : Int)) (congrArg (Value.int .i64) (by omega)) (q_add64 rfl rfl ⟨by omega, by omega⟩ rfl)) ?_; refine x_e rfl ?_; refine ecl rfl rfl (fun w hC hm hL => by exact rd_ok gd gw gm D (fr + i) (Fs i) hFi hgo hn6 w (hL.sub (by (repeat (first | exact List.nil_sublist _ | exact List.Sublist.slnil | apply List.Sublist.cons_cons | exact List.Sublist.refl _ | apply List.Sublist.cons))))) ?_; intro z4 m4 hz4 hn4 hm4; obtain ⟨b4, cap4⟩ := z4; obtain ⟨hz4a, hz4b, g4, hz4c⟩ := hz4; dsimp only at hz4a hz4b hz4c; subst hz4c; dsimp only; refine xk ?_; refine xn rfl qm ?_; refine xn rfl qe ?_; refine xn rfl qe ?_; refine xn rfl qa ?_; refine xn rfl qa ?_; refine x_nil ?_) | (refine c_region (id := 5) ?_; refine sq qm ?_; refine sq (by first | exact dneqt | exact dneqf) ?_; refine l_nil ?_) | (refine c_region (id := 7) ?_; refine sq qm ?_; refine se ?_; refine ecp rfl rfl (fun w hC hm hL => by exact headOf_y (Fs i) (hRB i hi2) hS g4 0 cap4 (by omega) w (hL.old_sl (k := 64) (o := 0) (by (repeat (first | exact List.Mem.head _ | apply List.Mem.tail))) (sec_old (Fs i)))) ?_; intro m' hm'; refine sq qm ?_; refine sq qe ?_; refine sq qe ?_; refine se ?_; refine ea ?_; refine se ?_; refine esa ?_ (hk := by rfl) (ho := by rfl) (hoff := by rfl); refine sq qa ?_; refine l_nil ?_) | (refine x_region (id := 8) none [(0, .n), (1, .n), (2, .n), (3, .q), (4, .n), (5, .n), (6, .n), (7, .q), (8, .n), (9, .n), (10, .n), (11, .n), (12, .q), (14, .n), (13, .e), (15, .n), (16, .n), (17, .n), (18, .n), (19, .q), (20, .n), (21, .n), (22, .n), (23, .n), (24, .q), (25, .n), (26, .n)] _ mixed (by kernel_rfl) (List.Sublist.refl _) ?_; refine xn rfl qm ?_; refine xn rfl qm ?_; (first | refine x_nskip rfl rfl rfl rfl ?_ | refine x_nskipv rfl rfl (by rfl) rfl ?_ | refine x_ng rfl rfl rfl (by exact qf) rfl ?_); (first | refine x_skip rfl rfl rfl rfl ?_ | refine x_skipv rfl rfl (by rfl) rfl ?_ | refine x_qg rfl rfl rfl (by exact ql) rfl ?_); (first | refine x_nskip rfl rfl rfl rfl ?_ | refine x_nskipv rfl rfl (by rfl) rfl ?_ | refine x_ng rfl rfl rfl (by exact qm) rfl ?_); (first | refine x_nskip rfl rfl rfl rfl ?_ | refine x_nskipv rfl rfl (by rfl) rfl ?_ | refine x_ng rfl rfl rfl (by exact qn) rfl ?_); (first | refine x_nskip rfl rfl rfl rfl ?_ | refine x_nskipv rfl rfl (by rfl) rfl ?_ | refine x_ng rfl rfl rfl (by exact qf) rfl ?_); (first | refine x_skip rfl rfl rfl rfl ?_ | refine x_skipv rfl rfl (by rfl) rfl ?_ | refine x_qg rfl rfl rfl (by exact ql) rfl ?_); (first | refine x_nskip rfl rfl rfl rfl ?_ | refine x_nskipv rfl rfl (by rfl) rfl ?_ | refine x_ng rfl rfl rfl (by exact qcU) rfl ?_); (first | refine x_nskip rfl rfl rfl rfl ?_ | refine x_nskipv rfl rfl (by rfl) rfl ?_ | refine x_ng rfl rfl rfl (by first | exact dleqt | exact dleqf) rfl ?_); refine xn rfl (by first | exact qpt | exact qpf) ?_; refine xn rfl qm ?_; (first | refine x_skip rfl rfl rfl rfl ?_ | refine x_skipv rfl rfl (by rfl) rfl ?_ | refine x_qg rfl rfl rfl (by exact qlb (hl := by rfl)) rfl ?_); (first | refine x_nskip rfl rfl rfl rfl ?_ | refine x_nskipv rfl rfl (by rfl) rfl ?_ | refine x_ng rfl rfl rfl (by exact qm) rfl ?_); (first | refine x_eskip (List.Sublist.refl _) rfl rfl rfl rfl ?_ | refine x_eskipv (List.Sublist.refl _) rfl rfl (by rfl) rfl ?_ | (refine x_eg rfl rfl rfl ?_; refine ecp rfl rfl (fun w hC hm hL => by exact place_c (hdOf (Fs i)) hse w) ?_; intro m' hm'; refine xk ?_)); (first | refine x_nskip rfl rfl rfl rfl ?_ | refine x_nskipv rfl rfl (by rfl) rfl ?_ | refine x_ng rfl rfl rfl (by first | exact deqlt | exact deqlf) rfl ?_); refine xn rfl (by first | exact qpt | exact qpf) ?_; refine xn rfl qm ?_; (first | refine x_nskip rfl rfl rfl rfl ?_ | refine x_nskipv rfl rfl (by rfl) rfl ?_ | refine x_ng rfl rfl rfl (by exact qf) rfl ?_); (first | refine x_skip rfl rfl rfl rfl ?_ | refine x_skipv rfl rfl (by rfl) rfl ?_ | refine x_qg rfl rfl rfl (by exact ql) rfl ?_); (first | refine x_nskip rfl rfl rfl rfl ?_ | refine x_nskipv rfl rfl (by rfl) rfl ?_ | refine x_ng rfl rfl rfl (by exact qm) rfl ?_); (first | refine x_nskip rfl rfl rfl rfl ?_ | refine x_nskipv rfl rfl (by rfl) rfl ?_ | refine x_ng rfl rfl rfl (by exact qn) rfl ?_); (first | refine x_nskip rfl rfl rfl rfl ?_ | refine x_nskipv rfl rfl (by rfl) rfl ?_ | refine x_ng rfl rfl rfl (by exact qf) rfl ?_); (first | refine x_nskip rfl rfl rfl rfl ?_ | refine x_nskipv rfl rfl (by rfl) rfl ?_ | refine x_ng rfl rfl rfl (by exact qf) rfl ?_); (first | refine x_skip rfl rfl rfl rfl ?_ | refine x_skipv rfl rfl (by rfl) rfl ?_ | refine x_qg rfl rfl rfl (by exact ql) rfl ?_); (first | refine x_nskip rfl rfl rfl rfl ?_ | refine x_nskipv rfl rfl (by rfl) rfl ?_ | refine x_ng rfl rfl rfl (by first | exact dgeqt | exact dgeqf) rfl ?_); refine xn rfl (by first | exact qpt | exact qpf) ?_; refine x_nil ?_) | (refine c_region (id := 9) ?_; refine sq qm ?_; refine sq (by exact qlb (hl := by rfl)) ?_; refine sq qn ?_; refine sq qf ?_; refine se ?_; refine e_store_row (vs := (headE (hdOf (Fs i))).toArray) rfl rfl (by rfl) (by rfl) (by rw [lg_set]; (repeat (first | exact Pl.here | apply Pl.there))) (by show 3 + 18 ≤ 23; omega) (.inl (by simp)) ?_; refine l_nil ?_) | (refine c_region (id := 10) ?_; refine sq qadd64 ?_; refine sq qm ?_; refine l_nil ?_) | refine n_then ?_ | refine c_block ?_ | refine c_skip ?_ | refine n_block ?_ | refine c_exit ?_ | refine n_then_exit ?_ | refine n_block_eq ?_ | refine n_block_ne rfl ?_ | refine c_ret ?_ | refine n_then_ret ?_ | refine n_block_ret ?_ | refine c_cond_t rfl ?_ | refine c_cond_f rfl ?_ | refine r_succ ?_ )
            refine c_round ⟨i + 1, m'⟩ ⟨by dsimp only; omega, by dsimp only; omega⟩ (by dsimp only; omega) ⟨rfl, rfl, rfl, trivial⟩ (by rfl) (by dsimp only; rw [e9]; exact (by (repeat (first | exact List.nil_sublist _ | exact List.Sublist.slnil | apply List.Sublist.cons_cons | exact List.Sublist.refl _ | apply List.Sublist.cons))))
          · have e9 := stI_n (room := room) (Fs := Fs) (i := i) (fun h => hg h.2.2.2)
            repeat (first | refine c_seq ?_ | (refine c_region (id := 2) ?_; refine sq (by first | exact dlsst | exact dlssf) ?_; refine l_nil ?_) | (refine c_region (id := 3) ?_; refine sq qm ?_; refine sq qa ?_; refine l_nil ?_) | (refine x_region (id := 4) none [(0, .n), (1, .n), (2, .n), (3, .q), (4, .n), (5, .n), (6, .n), (7, .q), (8, .n), (9, .n), (10, .e), (11, .n), (12, .n), (13, .n), (14, .n), (15, .n)] _ mixed (by kernel_rfl) (List.Sublist.refl _) ?_; refine xn rfl qm ?_; refine xn rfl qn ?_; refine xn rfl qf ?_; refine xq rfl ql ?_; refine xn rfl qm ?_; refine xn rfl qn ?_; refine xn rfl qf ?_; refine xq rfl ql ?_; refine xn rfl qm ?_; refine xn rfl (by exact Qt.cast (v' := .int .i64 ((fr + i : Nat) : Int)) (congrArg (Value.int .i64) (by omega)) (q_add64 rfl rfl ⟨by omega, by omega⟩ rfl)) ?_; refine x_e rfl ?_; refine ecl rfl rfl (fun w hC hm hL => by exact rd_ok gd gw gm D (fr + i) (Fs i) hFi hgo hn6 w (hL.sub (by (repeat (first | exact List.nil_sublist _ | exact List.Sublist.slnil | apply List.Sublist.cons_cons | exact List.Sublist.refl _ | apply List.Sublist.cons))))) ?_; intro z4 m4 hz4 hn4 hm4; obtain ⟨b4, cap4⟩ := z4; obtain ⟨hz4a, hz4b, g4, hz4c⟩ := hz4; dsimp only at hz4a hz4b hz4c; subst hz4c; dsimp only; refine xk ?_; refine xn rfl qm ?_; refine xn rfl qe ?_; refine xn rfl qe ?_; refine xn rfl qa ?_; refine xn rfl qa ?_; refine x_nil ?_) | (refine c_region (id := 5) ?_; refine sq qm ?_; refine sq (by first | exact dneqt | exact dneqf) ?_; refine l_nil ?_) | (refine c_region (id := 7) ?_; refine sq qm ?_; refine se ?_; refine ecp rfl rfl (fun w hC hm hL => by exact headOf_y (Fs i) (hRB i hi2) hS g4 0 cap4 (by omega) w (hL.old_sl (k := 64) (o := 0) (by (repeat (first | exact List.Mem.head _ | apply List.Mem.tail))) (sec_old (Fs i)))) ?_; intro m' hm'; refine sq qm ?_; refine sq qe ?_; refine sq qe ?_; refine se ?_; refine ea ?_; refine se ?_; refine esa ?_ (hk := by rfl) (ho := by rfl) (hoff := by rfl); refine sq qa ?_; refine l_nil ?_) | (refine x_region (id := 8) none [(0, .n), (1, .n), (2, .n), (3, .q), (4, .n), (5, .n), (6, .n), (7, .q), (8, .n), (9, .n), (10, .n), (11, .n), (12, .q), (14, .n), (13, .e), (15, .n), (16, .n), (17, .n), (18, .n), (19, .q), (20, .n), (21, .n), (22, .n), (23, .n), (24, .q), (25, .n), (26, .n)] _ mixed (by kernel_rfl) (List.Sublist.refl _) ?_; refine xn rfl qm ?_; refine xn rfl qm ?_; (first | refine x_nskip rfl rfl rfl rfl ?_ | refine x_nskipv rfl rfl (by rfl) rfl ?_ | refine x_ng rfl rfl rfl (by exact qf) rfl ?_); (first | refine x_skip rfl rfl rfl rfl ?_ | refine x_skipv rfl rfl (by rfl) rfl ?_ | refine x_qg rfl rfl rfl (by exact ql) rfl ?_); (first | refine x_nskip rfl rfl rfl rfl ?_ | refine x_nskipv rfl rfl (by rfl) rfl ?_ | refine x_ng rfl rfl rfl (by exact qm) rfl ?_); (first | refine x_nskip rfl rfl rfl rfl ?_ | refine x_nskipv rfl rfl (by rfl) rfl ?_ | refine x_ng rfl rfl rfl (by exact qn) rfl ?_); (first | refine x_nskip rfl rfl rfl rfl ?_ | refine x_nskipv rfl rfl (by rfl) rfl ?_ | refine x_ng rfl rfl rfl (by exact qf) rfl ?_); (first | refine x_skip rfl rfl rfl rfl ?_ | refine x_skipv rfl rfl (by rfl) rfl ?_ | refine x_qg rfl rfl rfl (by exact ql) rfl ?_); (first | refine x_nskip rfl rfl rfl rfl ?_ | refine x_nskipv rfl rfl (by rfl) rfl ?_ | refine x_ng rfl rfl rfl (by exact qcU) rfl ?_); (first | refine x_nskip rfl rfl rfl rfl ?_ | refine x_nskipv rfl rfl (by rfl) rfl ?_ | refine x_ng rfl rfl rfl (by first | exact dleqt | exact dleqf) rfl ?_); refine xn rfl (by first | exact qpt | exact qpf) ?_; refine xn rfl qm ?_; (first | refine x_skip rfl rfl rfl rfl ?_ | refine x_skipv rfl rfl (by rfl) rfl ?_ | refine x_qg rfl rfl rfl (by exact qlb (hl := by rfl)) rfl ?_); (first | refine x_nskip rfl rfl rfl rfl ?_ | refine x_nskipv rfl rfl (by rfl) rfl ?_ | refine x_ng rfl rfl rfl (by exact qm) rfl ?_); (first | refine x_eskip (List.Sublist.refl _) rfl rfl rfl rfl ?_ | refine x_eskipv (List.Sublist.refl _) rfl rfl (by rfl) rfl ?_ | (refine x_eg rfl rfl rfl ?_; refine ecp rfl rfl (fun w hC hm hL => by exact place_c (hdOf (Fs i)) hse w) ?_; intro m' hm'; refine xk ?_)); (first | refine x_nskip rfl rfl rfl rfl ?_ | refine x_nskipv rfl rfl (by rfl) rfl ?_ | refine x_ng rfl rfl rfl (by first | exact deqlt | exact deqlf) rfl ?_); refine xn rfl (by first | exact qpt | exact qpf) ?_; refine xn rfl qm ?_; (first | refine x_nskip rfl rfl rfl rfl ?_ | refine x_nskipv rfl rfl (by rfl) rfl ?_ | refine x_ng rfl rfl rfl (by exact qf) rfl ?_); (first | refine x_skip rfl rfl rfl rfl ?_ | refine x_skipv rfl rfl (by rfl) rfl ?_ | refine x_qg rfl rfl rfl (by exact ql) rfl ?_); (first | refine x_nskip rfl rfl rfl rfl ?_ | refine x_nskipv rfl rfl (by rfl) rfl ?_ | refine x_ng rfl rfl rfl (by exact qm) rfl ?_); (first | refine x_nskip rfl rfl rfl rfl ?_ | refine x_nskipv rfl rfl (by rfl) rfl ?_ | refine x_ng rfl rfl rfl (by exact qn) rfl ?_); (first | refine x_nskip rfl rfl rfl rfl ?_ | refine x_nskipv rfl rfl (by rfl) rfl ?_ | refine x_ng rfl rfl rfl (by exact qf) rfl ?_); (first | refine x_nskip rfl rfl rfl rfl ?_ | refine x_nskipv rfl rfl (by rfl) rfl ?_ | refine x_ng rfl rfl rfl (by exact qf) rfl ?_); (first | refine x_skip rfl rfl rfl rfl ?_ | refine x_skipv rfl rfl (by rfl) rfl ?_ | refine x_qg rfl rfl rfl (by exact ql) rfl ?_); (first | refine x_nskip rfl rfl rfl rfl ?_ | refine x_nskipv rfl rfl (by rfl) rfl ?_ | refine x_ng rfl rfl rfl (by first | exact dgeqt | exact dgeqf) rfl ?_); refine xn rfl (by first | exact qpt | exact qpf) ?_; refine x_nil ?_) | (refine c_region (id := 10) ?_; refine sq qadd64 ?_; refine sq qm ?_; refine l_nil ?_) | refine n_then ?_ | refine c_block ?_ | refine c_skip ?_ | refine n_block ?_ | refine c_exit ?_ | refine n_then_exit ?_ | refine n_block_eq ?_ | refine n_block_ne rfl ?_ | refine c_ret ?_ | refine n_then_ret ?_ | refine n_block_ret ?_ | refine c_cond_t rfl ?_ | refine c_cond_f rfl ?_ | refine r_succ ?_ )
            refine c_round ⟨i + 1, m'⟩ ⟨by dsimp only; omega, by dsimp only; omega⟩ (by dsimp only; omega) ⟨rfl, rfl, rfl, trivial⟩ (by rfl) (by dsimp only; rw [e9]; exact (by (repeat (first | exact List.nil_sublist _ | exact List.Sublist.slnil | apply List.Sublist.cons_cons | exact List.Sublist.refl _ | apply List.Sublist.cons))))
        · have e9 := stI_n (room := room) (Fs := Fs) (i := i) (fun h => hp h.2.2.1)
          repeat (first | refine c_seq ?_ | (refine c_region (id := 2) ?_; refine sq (by first | exact dlsst | exact dlssf) ?_; refine l_nil ?_) | (refine c_region (id := 3) ?_; refine sq qm ?_; refine sq qa ?_; refine l_nil ?_) | (refine x_region (id := 4) none [(0, .n), (1, .n), (2, .n), (3, .q), (4, .n), (5, .n), (6, .n), (7, .q), (8, .n), (9, .n), (10, .e), (11, .n), (12, .n), (13, .n), (14, .n), (15, .n)] _ mixed (by kernel_rfl) (List.Sublist.refl _) ?_; refine xn rfl qm ?_; refine xn rfl qn ?_; refine xn rfl qf ?_; refine xq rfl ql ?_; refine xn rfl qm ?_; refine xn rfl qn ?_; refine xn rfl qf ?_; refine xq rfl ql ?_; refine xn rfl qm ?_; refine xn rfl (by exact Qt.cast (v' := .int .i64 ((fr + i : Nat) : Int)) (congrArg (Value.int .i64) (by omega)) (q_add64 rfl rfl ⟨by omega, by omega⟩ rfl)) ?_; refine x_e rfl ?_; refine ecl rfl rfl (fun w hC hm hL => by exact rd_ok gd gw gm D (fr + i) (Fs i) hFi hgo hn6 w (hL.sub (by (repeat (first | exact List.nil_sublist _ | exact List.Sublist.slnil | apply List.Sublist.cons_cons | exact List.Sublist.refl _ | apply List.Sublist.cons))))) ?_; intro z4 m4 hz4 hn4 hm4; obtain ⟨b4, cap4⟩ := z4; obtain ⟨hz4a, hz4b, g4, hz4c⟩ := hz4; dsimp only at hz4a hz4b hz4c; subst hz4c; dsimp only; refine xk ?_; refine xn rfl qm ?_; refine xn rfl qe ?_; refine xn rfl qe ?_; refine xn rfl qa ?_; refine xn rfl qa ?_; refine x_nil ?_) | (refine c_region (id := 5) ?_; refine sq qm ?_; refine sq (by first | exact dneqt | exact dneqf) ?_; refine l_nil ?_) | (refine c_region (id := 7) ?_; refine sq qm ?_; refine se ?_; refine ecp rfl rfl (fun w hC hm hL => by exact headOf_y (Fs i) (hRB i hi2) hS g4 0 cap4 (by omega) w (hL.old_sl (k := 64) (o := 0) (by (repeat (first | exact List.Mem.head _ | apply List.Mem.tail))) (sec_old (Fs i)))) ?_; intro m' hm'; refine sq qm ?_; refine sq qe ?_; refine sq qe ?_; refine se ?_; refine ea ?_; refine se ?_; refine esa ?_ (hk := by rfl) (ho := by rfl) (hoff := by rfl); refine sq qa ?_; refine l_nil ?_) | (refine x_region (id := 8) none [(0, .n), (1, .n), (2, .n), (3, .q), (4, .n), (5, .n), (6, .n), (7, .q), (8, .n), (9, .n), (10, .n), (11, .n), (12, .q), (14, .n), (13, .e), (15, .n), (16, .n), (17, .n), (18, .n), (19, .q), (20, .n), (21, .n), (22, .n), (23, .n), (24, .q), (25, .n), (26, .n)] _ mixed (by kernel_rfl) (List.Sublist.refl _) ?_; refine xn rfl qm ?_; refine xn rfl qm ?_; (first | refine x_nskip rfl rfl rfl rfl ?_ | refine x_nskipv rfl rfl (by rfl) rfl ?_ | refine x_ng rfl rfl rfl (by exact qf) rfl ?_); (first | refine x_skip rfl rfl rfl rfl ?_ | refine x_skipv rfl rfl (by rfl) rfl ?_ | refine x_qg rfl rfl rfl (by exact ql) rfl ?_); (first | refine x_nskip rfl rfl rfl rfl ?_ | refine x_nskipv rfl rfl (by rfl) rfl ?_ | refine x_ng rfl rfl rfl (by exact qm) rfl ?_); (first | refine x_nskip rfl rfl rfl rfl ?_ | refine x_nskipv rfl rfl (by rfl) rfl ?_ | refine x_ng rfl rfl rfl (by exact qn) rfl ?_); (first | refine x_nskip rfl rfl rfl rfl ?_ | refine x_nskipv rfl rfl (by rfl) rfl ?_ | refine x_ng rfl rfl rfl (by exact qf) rfl ?_); (first | refine x_skip rfl rfl rfl rfl ?_ | refine x_skipv rfl rfl (by rfl) rfl ?_ | refine x_qg rfl rfl rfl (by exact ql) rfl ?_); (first | refine x_nskip rfl rfl rfl rfl ?_ | refine x_nskipv rfl rfl (by rfl) rfl ?_ | refine x_ng rfl rfl rfl (by exact qcU) rfl ?_); (first | refine x_nskip rfl rfl rfl rfl ?_ | refine x_nskipv rfl rfl (by rfl) rfl ?_ | refine x_ng rfl rfl rfl (by first | exact dleqt | exact dleqf) rfl ?_); refine xn rfl (by first | exact qpt | exact qpf) ?_; refine xn rfl qm ?_; (first | refine x_skip rfl rfl rfl rfl ?_ | refine x_skipv rfl rfl (by rfl) rfl ?_ | refine x_qg rfl rfl rfl (by exact qlb (hl := by rfl)) rfl ?_); (first | refine x_nskip rfl rfl rfl rfl ?_ | refine x_nskipv rfl rfl (by rfl) rfl ?_ | refine x_ng rfl rfl rfl (by exact qm) rfl ?_); (first | refine x_eskip (List.Sublist.refl _) rfl rfl rfl rfl ?_ | refine x_eskipv (List.Sublist.refl _) rfl rfl (by rfl) rfl ?_ | (refine x_eg rfl rfl rfl ?_; refine ecp rfl rfl (fun w hC hm hL => by exact place_c (hdOf (Fs i)) hse w) ?_; intro m' hm'; refine xk ?_)); (first | refine x_nskip rfl rfl rfl rfl ?_ | refine x_nskipv rfl rfl (by rfl) rfl ?_ | refine x_ng rfl rfl rfl (by first | exact deqlt | exact deqlf) rfl ?_); refine xn rfl (by first | exact qpt | exact qpf) ?_; refine xn rfl qm ?_; (first | refine x_nskip rfl rfl rfl rfl ?_ | refine x_nskipv rfl rfl (by rfl) rfl ?_ | refine x_ng rfl rfl rfl (by exact qf) rfl ?_); (first | refine x_skip rfl rfl rfl rfl ?_ | refine x_skipv rfl rfl (by rfl) rfl ?_ | refine x_qg rfl rfl rfl (by exact ql) rfl ?_); (first | refine x_nskip rfl rfl rfl rfl ?_ | refine x_nskipv rfl rfl (by rfl) rfl ?_ | refine x_ng rfl rfl rfl (by exact qm) rfl ?_); (first | refine x_nskip rfl rfl rfl rfl ?_ | refine x_nskipv rfl rfl (by rfl) rfl ?_ | refine x_ng rfl rfl rfl (by exact qn) rfl ?_); (first | refine x_nskip rfl rfl rfl rfl ?_ | refine x_nskipv rfl rfl (by rfl) rfl ?_ | refine x_ng rfl rfl rfl (by exact qf) rfl ?_); (first | refine x_nskip rfl rfl rfl rfl ?_ | refine x_nskipv rfl rfl (by rfl) rfl ?_ | refine x_ng rfl rfl rfl (by exact qf) rfl ?_); (first | refine x_skip rfl rfl rfl rfl ?_ | refine x_skipv rfl rfl (by rfl) rfl ?_ | refine x_qg rfl rfl rfl (by exact ql) rfl ?_); (first | refine x_nskip rfl rfl rfl rfl ?_ | refine x_nskipv rfl rfl (by rfl) rfl ?_ | refine x_ng rfl rfl rfl (by first | exact dgeqt | exact dgeqf) rfl ?_); refine xn rfl (by first | exact qpt | exact qpf) ?_; refine x_nil ?_) | (refine c_region (id := 10) ?_; refine sq qadd64 ?_; refine sq qm ?_; refine l_nil ?_) | refine n_then ?_ | refine c_block ?_ | refine c_skip ?_ | refine n_block ?_ | refine c_exit ?_ | refine n_then_exit ?_ | refine n_block_eq ?_ | refine n_block_ne rfl ?_ | refine c_ret ?_ | refine n_then_ret ?_ | refine n_block_ret ?_ | refine c_cond_t rfl ?_ | refine c_cond_f rfl ?_ | refine r_succ ?_ )
          refine c_round ⟨i + 1, m'⟩ ⟨by dsimp only; omega, by dsimp only; omega⟩ (by dsimp only; omega) ⟨rfl, rfl, rfl, trivial⟩ (by rfl) (by dsimp only; rw [e9]; exact (by (repeat (first | exact List.nil_sublist _ | exact List.Sublist.slnil | apply List.Sublist.cons_cons | exact List.Sublist.refl _ | apply List.Sublist.cons))))
      · have e9 := stI_n (room := room) (Fs := Fs) (i := i) (fun h => hc h.2.1)
        repeat (first | refine c_seq ?_ | (refine c_region (id := 2) ?_; refine sq (by first | exact dlsst | exact dlssf) ?_; refine l_nil ?_) | (refine c_region (id := 3) ?_; refine sq qm ?_; refine sq qa ?_; refine l_nil ?_) | (refine x_region (id := 4) none [(0, .n), (1, .n), (2, .n), (3, .q), (4, .n), (5, .n), (6, .n), (7, .q), (8, .n), (9, .n), (10, .e), (11, .n), (12, .n), (13, .n), (14, .n), (15, .n)] _ mixed (by kernel_rfl) (List.Sublist.refl _) ?_; refine xn rfl qm ?_; refine xn rfl qn ?_; refine xn rfl qf ?_; refine xq rfl ql ?_; refine xn rfl qm ?_; refine xn rfl qn ?_; refine xn rfl qf ?_; refine xq rfl ql ?_; refine xn rfl qm ?_; refine xn rfl (by exact Qt.cast (v' := .int .i64 ((fr + i : Nat) : Int)) (congrArg (Value.int .i64) (by omega)) (q_add64 rfl rfl ⟨by omega, by omega⟩ rfl)) ?_; refine x_e rfl ?_; refine ecl rfl rfl (fun w hC hm hL => by exact rd_ok gd gw gm D (fr + i) (Fs i) hFi hgo hn6 w (hL.sub (by (repeat (first | exact List.nil_sublist _ | exact List.Sublist.slnil | apply List.Sublist.cons_cons | exact List.Sublist.refl _ | apply List.Sublist.cons))))) ?_; intro z4 m4 hz4 hn4 hm4; obtain ⟨b4, cap4⟩ := z4; obtain ⟨hz4a, hz4b, g4, hz4c⟩ := hz4; dsimp only at hz4a hz4b hz4c; subst hz4c; dsimp only; refine xk ?_; refine xn rfl qm ?_; refine xn rfl qe ?_; refine xn rfl qe ?_; refine xn rfl qa ?_; refine xn rfl qa ?_; refine x_nil ?_) | (refine c_region (id := 5) ?_; refine sq qm ?_; refine sq (by first | exact dneqt | exact dneqf) ?_; refine l_nil ?_) | (refine c_region (id := 7) ?_; refine sq qm ?_; refine se ?_; refine ecp rfl rfl (fun w hC hm hL => by exact headOf_y (Fs i) (hRB i hi2) hS g4 0 cap4 (by omega) w (hL.old_sl (k := 64) (o := 0) (by (repeat (first | exact List.Mem.head _ | apply List.Mem.tail))) (sec_old (Fs i)))) ?_; intro m' hm'; refine sq qm ?_; refine sq qe ?_; refine sq qe ?_; refine se ?_; refine ea ?_; refine se ?_; refine esa ?_ (hk := by rfl) (ho := by rfl) (hoff := by rfl); refine sq qa ?_; refine l_nil ?_) | (refine x_region (id := 8) none [(0, .n), (1, .n), (2, .n), (3, .q), (4, .n), (5, .n), (6, .n), (7, .q), (8, .n), (9, .n), (10, .n), (11, .n), (12, .q), (14, .n), (13, .e), (15, .n), (16, .n), (17, .n), (18, .n), (19, .q), (20, .n), (21, .n), (22, .n), (23, .n), (24, .q), (25, .n), (26, .n)] _ mixed (by kernel_rfl) (List.Sublist.refl _) ?_; refine xn rfl qm ?_; refine xn rfl qm ?_; (first | refine x_nskip rfl rfl rfl rfl ?_ | refine x_nskipv rfl rfl (by rfl) rfl ?_ | refine x_ng rfl rfl rfl (by exact qf) rfl ?_); (first | refine x_skip rfl rfl rfl rfl ?_ | refine x_skipv rfl rfl (by rfl) rfl ?_ | refine x_qg rfl rfl rfl (by exact ql) rfl ?_); (first | refine x_nskip rfl rfl rfl rfl ?_ | refine x_nskipv rfl rfl (by rfl) rfl ?_ | refine x_ng rfl rfl rfl (by exact qm) rfl ?_); (first | refine x_nskip rfl rfl rfl rfl ?_ | refine x_nskipv rfl rfl (by rfl) rfl ?_ | refine x_ng rfl rfl rfl (by exact qn) rfl ?_); (first | refine x_nskip rfl rfl rfl rfl ?_ | refine x_nskipv rfl rfl (by rfl) rfl ?_ | refine x_ng rfl rfl rfl (by exact qf) rfl ?_); (first | refine x_skip rfl rfl rfl rfl ?_ | refine x_skipv rfl rfl (by rfl) rfl ?_ | refine x_qg rfl rfl rfl (by exact ql) rfl ?_); (first | refine x_nskip rfl rfl rfl rfl ?_ | refine x_nskipv rfl rfl (by rfl) rfl ?_ | refine x_ng rfl rfl rfl (by exact qcU) rfl ?_); (first | refine x_nskip rfl rfl rfl rfl ?_ | refine x_nskipv rfl rfl (by rfl) rfl ?_ | refine x_ng rfl rfl rfl (by first | exact dleqt | exact dleqf) rfl ?_); refine xn rfl (by first | exact qpt | exact qpf) ?_; refine xn rfl qm ?_; (first | refine x_skip rfl rfl rfl rfl ?_ | refine x_skipv rfl rfl (by rfl) rfl ?_ | refine x_qg rfl rfl rfl (by exact qlb (hl := by rfl)) rfl ?_); (first | refine x_nskip rfl rfl rfl rfl ?_ | refine x_nskipv rfl rfl (by rfl) rfl ?_ | refine x_ng rfl rfl rfl (by exact qm) rfl ?_); (first | refine x_eskip (List.Sublist.refl _) rfl rfl rfl rfl ?_ | refine x_eskipv (List.Sublist.refl _) rfl rfl (by rfl) rfl ?_ | (refine x_eg rfl rfl rfl ?_; refine ecp rfl rfl (fun w hC hm hL => by exact place_c (hdOf (Fs i)) hse w) ?_; intro m' hm'; refine xk ?_)); (first | refine x_nskip rfl rfl rfl rfl ?_ | refine x_nskipv rfl rfl (by rfl) rfl ?_ | refine x_ng rfl rfl rfl (by first | exact deqlt | exact deqlf) rfl ?_); refine xn rfl (by first | exact qpt | exact qpf) ?_; refine xn rfl qm ?_; (first | refine x_nskip rfl rfl rfl rfl ?_ | refine x_nskipv rfl rfl (by rfl) rfl ?_ | refine x_ng rfl rfl rfl (by exact qf) rfl ?_); (first | refine x_skip rfl rfl rfl rfl ?_ | refine x_skipv rfl rfl (by rfl) rfl ?_ | refine x_qg rfl rfl rfl (by exact ql) rfl ?_); (first | refine x_nskip rfl rfl rfl rfl ?_ | refine x_nskipv rfl rfl (by rfl) rfl ?_ | refine x_ng rfl rfl rfl (by exact qm) rfl ?_); (first | refine x_nskip rfl rfl rfl rfl ?_ | refine x_nskipv rfl rfl (by rfl) rfl ?_ | refine x_ng rfl rfl rfl (by exact qn) rfl ?_); (first | refine x_nskip rfl rfl rfl rfl ?_ | refine x_nskipv rfl rfl (by rfl) rfl ?_ | refine x_ng rfl rfl rfl (by exact qf) rfl ?_); (first | refine x_nskip rfl rfl rfl rfl ?_ | refine x_nskipv rfl rfl (by rfl) rfl ?_ | refine x_ng rfl rfl rfl (by exact qf) rfl ?_); (first | refine x_skip rfl rfl rfl rfl ?_ | refine x_skipv rfl rfl (by rfl) rfl ?_ | refine x_qg rfl rfl rfl (by exact ql) rfl ?_); (first | refine x_nskip rfl rfl rfl rfl ?_ | refine x_nskipv rfl rfl (by rfl) rfl ?_ | refine x_ng rfl rfl rfl (by first | exact dgeqt | exact dgeqf) rfl ?_); refine xn rfl (by first | exact qpt | exact qpf) ?_; refine x_nil ?_) | (refine c_region (id := 10) ?_; refine sq qadd64 ?_; refine sq qm ?_; refine l_nil ?_) | refine n_then ?_ | refine c_block ?_ | refine c_skip ?_ | refine n_block ?_ | refine c_exit ?_ | refine n_then_exit ?_ | refine n_block_eq ?_ | refine n_block_ne rfl ?_ | refine c_ret ?_ | refine n_then_ret ?_ | refine n_block_ret ?_ | refine c_cond_t rfl ?_ | refine c_cond_f rfl ?_ | refine r_succ ?_ )
        refine c_round ⟨i + 1, m' + 1⟩ ⟨by dsimp only; omega, by dsimp only; omega⟩ (by dsimp only; omega) ⟨rfl, rfl, rfl, trivial⟩ (by rfl) (by dsimp only; rw [e9]; exact (by (repeat (first | exact List.nil_sublist _ | exact List.Sublist.slnil | apply List.Sublist.cons_cons | exact List.Sublist.refl _ | apply List.Sublist.cons))))
    · have e9 := stI_n (room := room) (Fs := Fs) (i := i) (fun h => hS h.1)
      repeat (first | refine c_seq ?_ | (refine c_region (id := 2) ?_; refine sq (by first | exact dlsst | exact dlssf) ?_; refine l_nil ?_) | (refine c_region (id := 3) ?_; refine sq qm ?_; refine sq qa ?_; refine l_nil ?_) | (refine x_region (id := 4) none [(0, .n), (1, .n), (2, .n), (3, .q), (4, .n), (5, .n), (6, .n), (7, .q), (8, .n), (9, .n), (10, .e), (11, .n), (12, .n), (13, .n), (14, .n), (15, .n)] _ mixed (by kernel_rfl) (List.Sublist.refl _) ?_; refine xn rfl qm ?_; refine xn rfl qn ?_; refine xn rfl qf ?_; refine xq rfl ql ?_; refine xn rfl qm ?_; refine xn rfl qn ?_; refine xn rfl qf ?_; refine xq rfl ql ?_; refine xn rfl qm ?_; refine xn rfl (by exact Qt.cast (v' := .int .i64 ((fr + i : Nat) : Int)) (congrArg (Value.int .i64) (by omega)) (q_add64 rfl rfl ⟨by omega, by omega⟩ rfl)) ?_; refine x_e rfl ?_; refine ecl rfl rfl (fun w hC hm hL => by exact rd_ok gd gw gm D (fr + i) (Fs i) hFi hgo hn6 w (hL.sub (by (repeat (first | exact List.nil_sublist _ | exact List.Sublist.slnil | apply List.Sublist.cons_cons | exact List.Sublist.refl _ | apply List.Sublist.cons))))) ?_; intro z4 m4 hz4 hn4 hm4; obtain ⟨b4, cap4⟩ := z4; obtain ⟨hz4a, hz4b, g4, hz4c⟩ := hz4; dsimp only at hz4a hz4b hz4c; subst hz4c; dsimp only; refine xk ?_; refine xn rfl qm ?_; refine xn rfl qe ?_; refine xn rfl qe ?_; refine xn rfl qa ?_; refine xn rfl qa ?_; refine x_nil ?_) | (refine c_region (id := 5) ?_; refine sq qm ?_; refine sq (by first | exact dneqt | exact dneqf) ?_; refine l_nil ?_) | (refine c_region (id := 7) ?_; refine sq qm ?_; refine se ?_; refine ecp rfl rfl (fun w hC hm hL => by exact headOf_n (Fs i) (hRB i hi2) hS g4 0 cap4 (by omega) w (hL.old_sl (k := 64) (o := 0) (by (repeat (first | exact List.Mem.head _ | apply List.Mem.tail))) (sec_old (Fs i)))) ?_; intro m' hm'; refine sq qm ?_; refine sq qe ?_; refine sq qe ?_; refine se ?_; refine ea ?_; refine se ?_; refine esa ?_ (hk := by rfl) (ho := by rfl) (hoff := by rfl); refine sq qa ?_; refine l_nil ?_) | (refine x_region (id := 8) none [(0, .n), (1, .n), (2, .n), (3, .q), (4, .n), (5, .n), (6, .n), (7, .q), (8, .n), (9, .n), (10, .n), (11, .n), (12, .q), (14, .n), (13, .e), (15, .n), (16, .n), (17, .n), (18, .n), (19, .q), (20, .n), (21, .n), (22, .n), (23, .n), (24, .q), (25, .n), (26, .n)] _ mixed (by kernel_rfl) (List.Sublist.refl _) ?_; refine xn rfl qm ?_; refine xn rfl qm ?_; (first | refine x_nskip rfl rfl rfl rfl ?_ | refine x_nskipv rfl rfl (by rfl) rfl ?_ | refine x_ng rfl rfl rfl (by exact qf) rfl ?_); (first | refine x_skip rfl rfl rfl rfl ?_ | refine x_skipv rfl rfl (by rfl) rfl ?_ | refine x_qg rfl rfl rfl (by exact ql) rfl ?_); (first | refine x_nskip rfl rfl rfl rfl ?_ | refine x_nskipv rfl rfl (by rfl) rfl ?_ | refine x_ng rfl rfl rfl (by exact qm) rfl ?_); (first | refine x_nskip rfl rfl rfl rfl ?_ | refine x_nskipv rfl rfl (by rfl) rfl ?_ | refine x_ng rfl rfl rfl (by exact qn) rfl ?_); (first | refine x_nskip rfl rfl rfl rfl ?_ | refine x_nskipv rfl rfl (by rfl) rfl ?_ | refine x_ng rfl rfl rfl (by exact qf) rfl ?_); (first | refine x_skip rfl rfl rfl rfl ?_ | refine x_skipv rfl rfl (by rfl) rfl ?_ | refine x_qg rfl rfl rfl (by exact ql) rfl ?_); (first | refine x_nskip rfl rfl rfl rfl ?_ | refine x_nskipv rfl rfl (by rfl) rfl ?_ | refine x_ng rfl rfl rfl (by exact qcU) rfl ?_); (first | refine x_nskip rfl rfl rfl rfl ?_ | refine x_nskipv rfl rfl (by rfl) rfl ?_ | refine x_ng rfl rfl rfl (by first | exact dleqt | exact dleqf) rfl ?_); refine xn rfl (by first | exact qpt | exact qpf) ?_; refine xn rfl qm ?_; (first | refine x_skip rfl rfl rfl rfl ?_ | refine x_skipv rfl rfl (by rfl) rfl ?_ | refine x_qg rfl rfl rfl (by exact qlb (hl := by rfl)) rfl ?_); (first | refine x_nskip rfl rfl rfl rfl ?_ | refine x_nskipv rfl rfl (by rfl) rfl ?_ | refine x_ng rfl rfl rfl (by exact qm) rfl ?_); (first | refine x_eskip (List.Sublist.refl _) rfl rfl rfl rfl ?_ | refine x_eskipv (List.Sublist.refl _) rfl rfl (by rfl) rfl ?_ | (refine x_eg rfl rfl rfl ?_; refine ecp rfl rfl (fun w hC hm hL => by exact place_c (hdOf (Fs i)) hse w) ?_; intro m' hm'; refine xk ?_)); (first | refine x_nskip rfl rfl rfl rfl ?_ | refine x_nskipv rfl rfl (by rfl) rfl ?_ | refine x_ng rfl rfl rfl (by first | exact deqlt | exact deqlf) rfl ?_); refine xn rfl (by first | exact qpt | exact qpf) ?_; refine xn rfl qm ?_; (first | refine x_nskip rfl rfl rfl rfl ?_ | refine x_nskipv rfl rfl (by rfl) rfl ?_ | refine x_ng rfl rfl rfl (by exact qf) rfl ?_); (first | refine x_skip rfl rfl rfl rfl ?_ | refine x_skipv rfl rfl (by rfl) rfl ?_ | refine x_qg rfl rfl rfl (by exact ql) rfl ?_); (first | refine x_nskip rfl rfl rfl rfl ?_ | refine x_nskipv rfl rfl (by rfl) rfl ?_ | refine x_ng rfl rfl rfl (by exact qm) rfl ?_); (first | refine x_nskip rfl rfl rfl rfl ?_ | refine x_nskipv rfl rfl (by rfl) rfl ?_ | refine x_ng rfl rfl rfl (by exact qn) rfl ?_); (first | refine x_nskip rfl rfl rfl rfl ?_ | refine x_nskipv rfl rfl (by rfl) rfl ?_ | refine x_ng rfl rfl rfl (by exact qf) rfl ?_); (first | refine x_nskip rfl rfl rfl rfl ?_ | refine x_nskipv rfl rfl (by rfl) rfl ?_ | refine x_ng rfl rfl rfl (by exact qf) rfl ?_); (first | refine x_skip rfl rfl rfl rfl ?_ | refine x_skipv rfl rfl (by rfl) rfl ?_ | refine x_qg rfl rfl rfl (by exact ql) rfl ?_); (first | refine x_nskip rfl rfl rfl rfl ?_ | refine x_nskipv rfl rfl (by rfl) rfl ?_ | refine x_ng rfl rfl rfl (by first | exact dgeqt | exact dgeqf) rfl ?_); refine xn rfl (by first | exact qpt | exact qpf) ?_; refine x_nil ?_) | (refine c_region (id := 10) ?_; refine sq qadd64 ?_; refine sq qm ?_; refine l_nil ?_) | refine n_then ?_ | refine c_block ?_ | refine c_skip ?_ | refine n_block ?_ | refine c_exit ?_ | refine n_then_exit ?_ | refine n_block_eq ?_ | refine n_block_ne rfl ?_ | refine c_ret ?_ | refine n_then_ret ?_ | refine n_block_ret ?_ | refine c_cond_t rfl ?_ | refine c_cond_f rfl ?_ | refine r_succ ?_ )
      refine c_round ⟨i + 1, m' + 1⟩ ⟨by dsimp only; omega, by dsimp only; omega⟩ (by dsimp only; omega) ⟨rfl, rfl, rfl, trivial⟩ (by rfl) (by dsimp only; rw [e9]; exact (by (repeat (first | exact List.nil_sublist _ | exact List.Sublist.slnil | apply List.Sublist.cons_cons | exact List.Sublist.refl _ | apply List.Sublist.cons))))
  · obtain rfl : i = 2 := by omega
    repeat (first | refine c_seq ?_ | (refine c_region (id := 2) ?_; refine sq (by first | exact dlsst | exact dlssf) ?_; refine l_nil ?_) | (refine c_region (id := 11) ?_; refine sq qa ?_; refine l_nil ?_) | refine n_then ?_ | refine c_block ?_ | refine c_skip ?_ | refine n_block ?_ | refine c_exit ?_ | refine n_then_exit ?_ | refine n_block_eq ?_ | refine n_block_ne rfl ?_ | refine c_ret ?_ | refine n_then_ret ?_ | refine n_block_ret ?_ | refine c_cond_t rfl ?_ | refine c_cond_f rfl ?_ | refine r_succ ?_ )
    (first | apply r_ret () | apply r_end ()); exact rfl; exact rfl; exact (.tmp rfl .nil); exact rfl; exact (by exact (by (repeat (first | exact List.nil_sublist _ | exact List.Sublist.slnil | apply List.Sublist.cons_cons | exact List.Sublist.refl _ | apply List.Sublist.cons)))); exact (by intro g hg; simp [feet, Chunk.foot] at hg; exact .inl (by simp [hg])); exact trivial
def rmL (Fs : Nat → Nat → Int) (n : Nat) : List Int := (List.range n).map fun p => Fs (2 + p / 64) (p % 64)
theorem rmL_len (Fs : Nat → Nat → Int) (n : Nat) : (rmL Fs n).length = n := by simp [rmL]
theorem rm_succ (Fs : Nat → Nat → Int) (i : Nat) : rmL Fs (64 * i) ++ secL (Fs (2 + i)) 64 = rmL Fs (64 * i + 64) := by
  unfold rmL secL
  rw [List.range_add, List.map_append, List.map_map]
  congr 1
  apply List.map_congr_left
  intro j hj
  have hj := List.mem_range.1 hj
  show Fs (2 + i) j = Fs (2 + (64 * i + j) / 64) ((64 * i + j) % 64)
  rw [show (64 * i + j) / 64 = i by omega, show (64 * i + j) % 64 = j by omega]
theorem rm_take (Fs : Nat → Nat → Int) (n c : Nat) (h : c ≤ n) : (rmL Fs n).take c = rmL Fs c := by
  unfold rmL
  rw [← List.map_take, List.take_range, Nat.min_eq_left h]
theorem sl0 {X : List Nat} {k : Nat} {b : Option Addr} {cap len : Nat} (h : OS X k b cap len) : (if cap = (0 : Int).toNat then b else b.map (·.add ((0 : Int).toNat * 1))) = b := by
  rcases h.ob with ⟨rfl, _⟩ | ⟨g, rfl⟩
  · simp
  · split
    · rfl
    · simp [Addr.add_mid]
set_option maxRecDepth 100000 in
set_option maxHeartbeats 4000000 in
theorem bytesR_c (gl gd gw gm fr room : Nat) (h : Hd) (ov : Bool) (Fs : Nat → Nat → Int) (c : Nat) (hc : h.cnt = c) (hfr : fr ≤ 16384) (hcr : c ≤ room) (hroom : room ≤ 2000000) (D : Dk) (hgo : D.gone = false) (hn6 : D.secs.length ≤ 16384) (hF : ∀ i, 64 * i < c → D.secs[fr + (2 + i)]? = some (Fs (2 + i))) (w : World) (hL0 : Has (LgB gl gd fr room h (.slice none 0 0) ov :: DskL gd gw gm D) w) :
    CA Tryz.prog 45 [.pointer (some ⟨gl, 0, none⟩)] w (Ret (fun _ : Option Addr × Nat => .int .i64 0) [gl] (fun z => [.sl z.1 z.2 5 1 ((rmL Fs (c)).map (Value.int .u8)), LgB gl gd fr room h (.slice z.1 (c) z.2) ov]) (fun z => c ≤ z.2 ∧ z.2 ≤ 9223372036854775807 ∧ ((z.1 = none ∧ c = 0) ∨ ∃ g, z.1 = some ⟨g, 0, none⟩)) w) := by
  refine enter (L := (LgB gl gd fr room h (.slice none 0 0) ov :: DskL gd gw gm D)) (X := [gl]) Tryz.func45 rfl Tryz.ntmps45 rfl rfl hL0 ?_
  repeat (first | refine c_seq ?_ | (refine c_region (id := 0) ?_; refine sq qa ?_; refine l_nil ?_) | (refine c_region (id := 1) ?_; refine sq qm ?_; refine sq qn ?_; refine sq qf ?_; refine sq qf ?_; refine sq ql ?_; refine sq (by exact Qt.cast (v' := .int .i64 ((c : Nat) : Int)) (congrArg (Value.int .i64) (by omega)) (qci (h0 := by omega) (h1 := by omega))) ?_; refine sq qa ?_; refine l_nil ?_) | (refine c_region (id := 2) ?_; refine sq qa ?_; refine l_nil ?_) | refine n_then ?_ | refine c_block ?_ | refine c_skip ?_ | refine n_block ?_ | refine c_exit ?_ | refine n_then_exit ?_ | refine n_block_eq ?_ | refine n_block_ne rfl ?_ | refine c_ret ?_ | refine n_then_ret ?_ | refine n_block_ret ?_ | refine c_cond_t rfl ?_ | refine c_cond_f rfl ?_ | refine r_succ ?_ )
  refine add_nil 5 1 ?_
  refine c_loop (γ := Nat × Option Addr × Nat × Nat) (fun z => [(4, .int .i64 z.1), (3, .int .i64 c), (0, .pointer (some ⟨gl, 0, none⟩)), (2, .int .i64 0)]) (fun z => z.2.2.2) (fun z => .sl z.2.1 z.2.2.1 5 1 ((rmL Fs (64 * z.1)).map (Value.int .u8)) :: LgB gl gd fr room h (.slice z.2.1 (64 * z.1) z.2.2.1) ov :: DskL gd gw gm D) (fun z => 64 * z.1 < c + 64 ∧ OS [gl] w.heap.size z.2.1 z.2.2.1 (64 * z.1) ∧ w.heap.size ≤ z.2.2.2) (fun z => c + 64 - 64 * z.1) ⟨0, none, 0, w.heap.size⟩ ⟨by simp, OS.nil _ _, Nat.le_refl _⟩ ⟨rfl, rfl, rfl, rfl, trivial⟩ rfl (List.Sublist.refl _) ?_
  rintro ⟨i, b, cap, mm⟩ ⟨hi, ho, hmm⟩
  dsimp only at hi ho hmm ⊢
  by_cases h8 : 64 * i < c
  · have hFi := hF i h8
    repeat (first | refine c_seq ?_ | (refine c_region (id := 3) ?_; refine sq qm ?_; refine sq qn ?_; refine sq qf ?_; refine sq ql ?_; refine sq qls ?_; refine sq qm ?_; refine sq (by first | exact dlsst | exact dlssf) ?_; refine l_nil ?_) | (refine c_region (id := 4) ?_; refine sq qm ?_; refine sq qadd64 ?_; refine sq qa ?_; refine l_nil ?_) | (refine x_region (id := 5) none [(0, .n), (1, .n), (2, .n), (3, .q), (4, .n), (5, .n), (6, .n), (7, .q), (8, .n), (9, .n), (10, .n), (11, .e), (12, .n), (13, .n), (14, .n), (15, .n), (16, .n)] _ mixed (by kernel_rfl) (List.Sublist.refl _) ?_; refine xn rfl qm ?_; refine xn rfl qn ?_; refine xn rfl qf ?_; refine xq rfl ql ?_; refine xn rfl qm ?_; refine xn rfl qn ?_; refine xn rfl qf ?_; refine xq rfl ql ?_; refine xn rfl qadd64 ?_; refine xn rfl qm ?_; refine xn rfl (by exact Qt.cast (v' := .int .i64 ((fr + (2 + i) : Nat) : Int)) (congrArg (Value.int .i64) (by omega)) (q_add64 rfl rfl ⟨by omega, by omega⟩ rfl)) ?_; refine x_e rfl ?_; refine ecl rfl rfl (fun w hC hm hL => by exact rd_ok gd gw gm D (fr + (2 + i)) (Fs (2 + i)) hFi hgo hn6 w (hL.sub (by (repeat (first | exact List.nil_sublist _ | exact List.Sublist.slnil | apply List.Sublist.cons_cons | exact List.Sublist.refl _ | apply List.Sublist.cons))))) ?_; intro z4 m4 hz4 hn4 hm4; obtain ⟨b4, cap4⟩ := z4; obtain ⟨hz4a, hz4b, g4, hz4c⟩ := hz4; dsimp only at hz4a hz4b hz4c; subst hz4c; dsimp only; refine xk ?_; refine xn rfl qm ?_; refine xn rfl qe ?_; refine xn rfl qe ?_; refine xn rfl qa ?_; refine xn rfl qa ?_; refine x_nil ?_) | (refine c_region (id := 6) ?_; refine sq qm ?_; refine sq (by first | exact dneqt | exact dneqf) ?_; refine l_nil ?_) | (refine c_region (id := 8) ?_; refine sq qm ?_; refine sq qm ?_; refine sq qn ?_; refine sq qf ?_; refine sq ql ?_; refine sq qm ?_; refine se ?_; refine e_appE (Value.int .u8) (rmL Fs (64 * i)) (secL (Fs (2 + i)) 64) rfl rfl rfl (by (repeat (first | exact Rm.here | apply Rm.there))) (.inr ⟨_, rfl, RdN.sl (by (repeat (first | exact List.Mem.head _ | apply List.Mem.tail))) (by rw [List.drop_zero]; exact List.take_length)⟩) (rmL_len _ _) (secL_len _ _) ho (allOne_u8L _) (by omega) (by omega) ?_; intro b2 cap2 m2 ho2 hm2; refine sq qn ?_; refine sq qf ?_; refine se ?_; refine es1 ?_ (hg := .inl (by simp)); refine l_nil ?_) | refine n_then ?_ | refine c_block ?_ | refine c_skip ?_ | refine n_block ?_ | refine c_exit ?_ | refine n_then_exit ?_ | refine n_block_eq ?_ | refine n_block_ne rfl ?_ | refine c_ret ?_ | refine n_then_ret ?_ | refine n_block_ret ?_ | refine c_cond_t rfl ?_ | refine c_cond_f rfl ?_ | refine r_succ ?_ )
    refine c_round ⟨i + 1, b2, cap2, m2⟩ ⟨by dsimp only; omega, ho2, by dsimp only; omega⟩ (by dsimp only; omega) ⟨rfl, rfl, rfl, rfl, trivial⟩ (by rfl) (by dsimp only; rw [rm_succ]; exact (by (repeat (first | exact List.nil_sublist _ | exact List.Sublist.slnil | apply List.Sublist.cons_cons | exact List.Sublist.refl _ | apply List.Sublist.cons))))
  · have hlc := ho.le
    have e9 : ((rmL Fs (64 * i)).map (Value.int .u8)).take c = (rmL Fs c).map (Value.int .u8) := by rw [← List.map_take, rm_take _ _ _ (by omega)]
    refine wk_sl c (by (repeat (first | exact Pl.here | apply Pl.there))) ?_
    rw [e9]
    repeat (first | refine c_seq ?_ | (refine c_region (id := 3) ?_; refine sq qm ?_; refine sq qn ?_; refine sq qf ?_; refine sq ql ?_; refine sq qls ?_; refine sq qm ?_; refine sq (by first | exact dlsst | exact dlssf) ?_; refine l_nil ?_) | (refine c_region (id := 9) ?_; refine sq qm ?_; refine sq qm ?_; refine sq qn ?_; refine sq qf ?_; refine sq ql ?_; refine sq qm ?_; refine sq (by exact qs (b' := b) (hb' := sl0 ho) (h2 := by have := ho.le; omega) (hlc := ho.le)) ?_; refine sq qn ?_; refine sq qf ?_; refine se ?_; refine es1 ?_ (hg := .inl (by simp)); refine l_nil ?_) | (refine c_region (id := 10) ?_; refine sq qa ?_; refine l_nil ?_) | refine n_then ?_ | refine c_block ?_ | refine c_skip ?_ | refine n_block ?_ | refine c_exit ?_ | refine n_then_exit ?_ | refine n_block_eq ?_ | refine n_block_ne rfl ?_ | refine c_ret ?_ | refine n_then_ret ?_ | refine n_block_ret ?_ | refine c_cond_t rfl ?_ | refine c_cond_f rfl ?_ | refine r_succ ?_ )
    (first | apply r_ret (b, cap) | apply r_end (b, cap)); exact rfl; exact rfl; exact (.tmp rfl .nil); exact rfl; exact (by exact (by (repeat (first | exact List.nil_sublist _ | exact List.Sublist.slnil | apply List.Sublist.cons_cons | exact List.Sublist.refl _ | apply List.Sublist.cons)))); exact (new_sl ho.newc (new_blk (.inl (by simp)) new_nil)); exact ⟨by dsimp only; omega, ho.max, ho.ob.imp (fun h => ⟨h.1, by omega⟩) id⟩
end Go.Proofs.YtgmghkakiocmjaaGreatDoor
namespace Go.Proofs.YtgmghkakiocmjaaGreatDoor
open Go Go.RowKit
set_option linter.unusedVariables false
set_option linter.unusedSimpArgs false
theorem stI_K {room : Nat} {Fs : Nat → Nat → Int} (hRB : ∀ i, i < 2 → RB (Fs i)) : ∀ i, i ≤ 2 → HdK (stI room Fs i) ∧ (stI room Fs i).cnt ≤ room
  | 0, _ => ⟨hdZ_K, by show (0 : Int) ≤ room; omega⟩
  | i + 1, hi => by
    have h1 := stI_K (room := room) hRB i (by omega)
    by_cases h : hdU room i (stI room Fs i) (Fs i)
    · rw [stI_y h]
      exact ⟨hdOf_K (hRB i (by omega)), h.2.1⟩
    · rw [stI_n h]; exact h1
set_option maxRecDepth 100000 in
set_option maxHeartbeats 4000000 in
theorem open_c (gd gw gm fr kn : Nat) (hk : 3 ≤ kn ∧ kn ≤ 16384) (Fs : Nat → Nat → Int) (D : Dk) (hgo : D.gone = false) (hn6 : D.secs.length ≤ 16384) (hfk : fr + kn ≤ D.secs.length) (hF : ∀ i, i < kn → D.secs[fr + i]? = some (Fs i)) (hRB : ∀ i, i < 2 → RB (Fs i)) (c : Nat) (hc : (stI ((kn - 2) * 64) Fs 2).cnt = c) (w : World) (hD : Has (DskL gd gw gm D) w) :
    CA Tryz.prog 21 [.pointer (some ⟨gd, 0, none⟩), .int .i64 (fr : Int), .int .i64 (kn : Int)] w (Ret (fun z : Nat × Option Addr × Nat => .tuple #[.pointer (some ⟨z.1, 0, none⟩), .int .i64 0]) [] (fun z => [.sl z.2.1 z.2.2 5 1 ((rmL Fs c).map (Value.int .u8)), LgB z.1 gd fr ((kn - 2) * 64) (stI ((kn - 2) * 64) Fs 2) (.slice z.2.1 c z.2.2) false]) (fun z => c ≤ z.2.2 ∧ z.2.2 ≤ 9223372036854775807 ∧ ((z.2.1 = none ∧ c = 0) ∨ ∃ g, z.2.1 = some ⟨g, 0, none⟩)) w) := by
  have hcr : c ≤ ((kn - 2) * 64) := by
    have h9 := (stI_K (room := ((kn - 2) * 64)) hRB 2 (Nat.le_refl _)).2
    omega
  refine enter (L := DskL gd gw gm D) (X := []) Tryz.func21 rfl Tryz.ntmps21 rfl rfl hD ?_
  repeat (first | refine c_seq ?_ | (refine c_region (id := 0) ?_; refine sq qa ?_; refine sq qa ?_; refine l_nil ?_) | (refine c_region (id := 1) ?_; refine sq qm ?_; refine sq (by first | exact dlsst | exact dlssf) ?_; refine sq qm ?_; (first | refine sk ?_ | refine skv ?_ | (refine st_want rfl rfl ?_; refine sq qm ?_)); (first | refine sk ?_ | refine skv ?_ | (refine st_want rfl rfl ?_; refine sq (by first | exact dlsst | exact dlssf) ?_)); refine sq (by first | exact qpt | exact qpf) ?_; refine sq qm ?_; (first | refine sk ?_ | refine skv ?_ | (refine st_want rfl rfl ?_; refine sq qm ?_)); (first | refine sk ?_ | refine skv ?_ | (refine st_want rfl rfl ?_; refine sq qm ?_)); (first | refine sk ?_ | refine skv ?_ | (refine st_want rfl rfl ?_; refine se ?_; refine ecp rfl rfl (fun w hC hm hL => by exact sect_c gd gw gm D w (hL.sub (by (repeat (first | exact List.nil_sublist _ | exact List.Sublist.slnil | apply List.Sublist.cons_cons | exact List.Sublist.refl _ | apply List.Sublist.cons))))) ?_; intro m' hm')); (first | refine sk ?_ | refine skv ?_ | (refine st_want rfl rfl ?_; refine sq (by first | exact dgtrt | exact dgtrf) ?_)); refine sq (by first | exact qpt | exact qpf) ?_; refine sq qm ?_; (first | refine sk ?_ | refine skv ?_ | (refine st_want rfl rfl ?_; refine sq qm ?_)); (first | refine sk ?_ | refine skv ?_ | (refine st_want rfl rfl ?_; refine sq qm ?_)); (first | refine sk ?_ | refine skv ?_ | (refine st_want rfl rfl ?_; refine se ?_; refine ecp rfl rfl (fun w hC hm hL => by exact sect_c gd gw gm D w (hL.sub (by (repeat (first | exact List.nil_sublist _ | exact List.Sublist.slnil | apply List.Sublist.cons_cons | exact List.Sublist.refl _ | apply List.Sublist.cons))))) ?_; intro m' hm')); (first | refine sk ?_ | refine skv ?_ | (refine st_want rfl rfl ?_; refine sq qm ?_)); (first | refine sk ?_ | refine skv ?_ | (refine st_want rfl rfl ?_; refine sq qsub64 ?_)); (first | refine sk ?_ | refine skv ?_ | (refine st_want rfl rfl ?_; refine sq (by first | exact dgtrt | exact dgtrf) ?_)); refine sq (by first | exact qpt | exact qpf) ?_; refine l_nil ?_) | (refine c_region (id := 3) ?_; refine sq qm ?_; refine sq qm ?_; refine sq qm ?_; refine sq (by exact Qt.cast (v' := .int .i64 (((kn - 2) : Nat) : Int)) (congrArg (Value.int .i64) (by omega)) (q_sub64 rfl rfl ⟨by omega, by omega⟩ rfl)) ?_; refine sq (by exact Qt.cast (v' := .int .i64 ((((kn - 2) * 64) : Nat) : Int)) (congrArg (Value.int .i64) (by omega)) (q_mul64 rfl rfl ⟨by omega, by omega⟩ rfl)) ?_; refine sq qbs ?_; refine se ?_; refine eb ?_; refine sq qa ?_; refine l_nil ?_) | refine n_then ?_ | refine c_block ?_ | refine c_skip ?_ | refine n_block ?_ | refine c_exit ?_ | refine n_then_exit ?_ | refine n_block_eq ?_ | refine n_block_ne rfl ?_ | refine c_ret ?_ | refine n_then_ret ?_ | refine n_block_ret ?_ | refine c_cond_t rfl ?_ | refine c_cond_f rfl ?_ | refine r_succ ?_ )
  obtain ⟨mb, hmb⟩ : ∃ mb, mb = m' := ⟨_, rfl⟩
  rw [← hmb]
  refine chg (L' := LgB mb gd fr ((kn - 2) * 64) hdZ (.slice none 0 0) false :: DskL gd gw gm D) (by rfl) ?_
  repeat (first | refine c_seq ?_ | (refine c_region (id := 4) ?_; refine sq qm ?_; refine se ?_; refine e_call_upd rfl rfl (by kernel_rfl) rfl (fun w hC hm hL => by exact heads_c mb gd gw gm fr ((kn - 2) * 64) (.slice none 0 0) false Fs (by omega) (by omega) D hgo hn6 (fun i hi => hF i (by omega)) (fun i hi => hRB i (by omega)) w (hL.sub (by (repeat (first | exact List.nil_sublist _ | exact List.Sublist.slnil | apply List.Sublist.cons_cons | exact List.Sublist.refl _ | apply List.Sublist.cons))))) (by (repeat (first | exact Pl.here | apply Pl.there))) (by first | (left; simp; done) | (right; omega)) ?_; intro m' hm'; refine sq qa ?_; refine l_nil ?_) | (refine c_region (id := 5) ?_; refine sq qm ?_; refine sq (by first | exact dneqt | exact dneqf) ?_; refine l_nil ?_) | (refine c_region (id := 7) ?_; refine sq qm ?_; refine se ?_; refine e_call (Y := [mb]) (L' := DskL gd gw gm D) rfl rfl (by kernel_rfl) rfl (fun w1 hC hm hL => by exact bytesR_c mb gd gw gm fr ((kn - 2) * 64) (stI ((kn - 2) * 64) Fs 2) false Fs c hc (by omega) (by omega) (by omega) D hgo hn6 (fun i hi => hF (2 + i) (by omega)) w1 (hL.sub (by (repeat (first | exact List.nil_sublist _ | exact List.Sublist.slnil | apply List.Sublist.cons_cons | exact List.Sublist.refl _ | apply List.Sublist.cons))))) (by simp; omega) (by exact (by (repeat (first | exact List.nil_sublist _ | exact List.Sublist.slnil | apply List.Sublist.cons_cons | exact List.Sublist.refl _ | apply List.Sublist.cons)))) (by intro g hg hm; rw [feetD] at hm; have h7 := hD.lt g (by rw [feetD]; exact hm); simp at hg; omega) ?_; intro z m4 hz hn4 hm4; obtain ⟨b4, cap4⟩ := z; dsimp only at hz hn4 ⊢; refine sq qa ?_; refine l_nil ?_) | (refine c_region (id := 8) ?_; refine sq qm ?_; refine sq (by first | exact dneqt | exact dneqf) ?_; refine l_nil ?_) | (refine c_region (id := 10) ?_; refine sq qm ?_; refine sq qa ?_; refine sq qa ?_; refine l_nil ?_) | refine n_then ?_ | refine c_block ?_ | refine c_skip ?_ | refine n_block ?_ | refine c_exit ?_ | refine n_then_exit ?_ | refine n_block_eq ?_ | refine n_block_ne rfl ?_ | refine c_ret ?_ | refine n_then_ret ?_ | refine n_block_ret ?_ | refine c_cond_t rfl ?_ | refine c_cond_f rfl ?_ | refine r_succ ?_ )
  (first | apply r_ret (mb, b4, cap4) | apply r_end (mb, b4, cap4)); exact rfl; exact rfl; exact (.tmp rfl (.tmp rfl .nil)); exact rfl; exact (by exact (by (repeat (first | exact List.nil_sublist _ | exact List.Sublist.slnil | apply List.Sublist.cons_cons | exact List.Sublist.refl _ | apply List.Sublist.cons)))); exact (by intro g hg; have h8 := hn4 g hg; simp at h8; exact .inr (by omega)); exact hz
end Go.Proofs.YtgmghkakiocmjaaGreatDoor
namespace Go.Proofs.YtgmghkakiocmjaaGreatDoor
open Go Go.RowKit
set_option linter.unusedVariables false
set_option linter.unusedSimpArgs false
def Dk.sy (D : Dk) : Bool × Dk := if D.pgone then (false, D.dead) else (true, D.lit.still)
def wrAll : List (Nat × (Nat → Int)) → Dk → Bool × Dk
  | [], D => D.sy
  | e :: l, D => if D.pgone then (false, D.dead) else wrAll l (D.lit.put e.1 e.2)
def secAt (xs : List Int) (q j : Nat) : Int := if j < 64 then (xs[64 * q + j]?).getD 0 else 0
def rmW (fr : Nat) (xs : List Int) : Nat → Nat → List (Nat × (Nat → Int))
  | 0, _ => []
  | k + 1, q => (fr + (2 + q), secAt xs q) :: rmW fr xs k (q + 1)
theorem sec_set (xs : List Int) (q : Nat) (h : 64 * q < xs.length) : setA (List.replicate 64 (Value.int .u8 0)).toArray 0 (((xs.drop (64 * q)).take 64).map (Value.int .u8)) = ((secL (secAt xs q) 64).map (Value.int .u8)).toArray := by
  apply Array.ext'
  rw [setA_toList _ _ _ (by simp; omega)]
  apply List.ext_getElem?
  intro j
  simp only [List.take_zero, List.nil_append, Nat.zero_add, List.length_map, List.length_take, List.length_drop]
  by_cases h6 : j < 64
  · have e1 : ((secL (secAt xs q) 64).map (Value.int .u8))[j]? = some ((Value.int .u8) (secAt xs q j)) := by simp [secL, h6]
    rw [e1]
    by_cases hj : 64 * q + j < xs.length
    · rw [List.getElem?_append_left (by simp; omega)]
      simp only [List.getElem?_map, List.getElem?_take, List.getElem?_drop, if_pos h6]
      simp only [secAt, if_pos h6, List.getElem?_eq_getElem hj, Option.map_some, Option.getD_some]
    · rw [List.getElem?_append_right (by simp; omega)]
      simp only [List.length_map, List.length_take, List.length_drop, List.getElem?_drop, List.getElem?_replicate]
      rw [if_pos (by omega)]
      simp only [secAt, if_pos h6, List.getElem?_eq_none (show xs.length ≤ 64 * q + j by omega), Option.getD_none]
  · rw [List.getElem?_eq_none (by simp; omega), List.getElem?_eq_none (by simp [secL_len]; omega)]
theorem secAt_RB {xs : List Int} (hx : ∀ x ∈ xs, 0 ≤ x ∧ x ≤ 255) (q : Nat) : RB (secAt xs q) := by
  refine ⟨fun j => ?_⟩
  unfold secAt
  split
  · cases h : xs[64 * q + j]? with
    | none => simp
    | some v => exact hx v (List.mem_of_getElem? h)
  · omega
theorem apart_blk {L' A : List Chunk} {g0 o1 : Nat} {ob : Obj} (hm : Chunk.blk g0 ob ∈ L') (h : ∀ g ∈ feet A, g ∉ feet L') : ∀ g o, some (⟨g0, o1, none⟩ : Addr) = some ⟨g, o, none⟩ → g ∉ feet A := by
  intro g o hb hg
  simp only [Option.some.injEq, Addr.mk.injEq, and_true] at hb
  exact h g hg (List.mem_flatMap.2 ⟨_, hm, by simp [Chunk.foot, hb.1]⟩)
def erC (b : Bool) : Int := if b then 0 else 5
set_option maxRecDepth 100000 in
set_option maxHeartbeats 4000000 in
theorem wroom_c (gl gd gw gm fr room : Nat) (h : Hd) (b0 : Option Addr) (len0 cap0 : Nat) (ov : Bool) (D : Dk) (nd : Nat) (hok : D.OK nd) (a : Option Addr) (n cap : Nat) (xs : List Int) (hn : xs.length = n) (hcap : n ≤ cap) (hn9 : n ≤ 2000000) (hln : len0 ≤ n) (hfit : fr + 2 + (n + 63) / 64 ≤ nd) (w : World) (hs : SlE (Value.int .u8) w a xs) (hx : ∀ g o, a = some ⟨g, o, none⟩ → g ∉ [gd, gw, gm]) (hL0 : Has (LgB gl gd fr room h (.slice b0 len0 cap0) ov :: DskL gd gw gm D) w) :
    CA Tryz.prog 53 [.pointer (some ⟨gl, 0, none⟩), .slice a n cap] w (Ret (fun _ : Unit => .int .i64 (erC (wrAll (rmW fr xs ((n + 63) / 64 - len0 / 64) (len0 / 64)) D).1)) [gd, gw, gm] (fun _ => DskL gd gw gm (wrAll (rmW fr xs ((n + 63) / 64 - len0 / 64) (len0 / 64)) D).2) (fun _ => True) w) := by
  have hnd := hok.n9
  obtain ⟨r, hr⟩ : ∃ r, r = wrAll (rmW fr xs ((n + 63) / 64 - len0 / 64) (len0 / 64)) D := ⟨_, rfl⟩
  rw [← hr]
  refine enter (L := (LgB gl gd fr room h (.slice b0 len0 cap0) ov :: DskL gd gw gm D)) (X := [gd, gw, gm]) Tryz.func53 rfl Tryz.ntmps53 rfl rfl hL0 ?_
  repeat (first | refine c_seq ?_ | (refine c_region (id := 0) ?_; refine sq qa ?_; refine l_nil ?_) | (refine c_region (id := 1) ?_; refine sq qm ?_; refine sq qn ?_; refine sq qf ?_; refine sq ql ?_; refine sq qls ?_; refine sq (by exact Qt.cast (v' := .int .i64 (((len0 / 64) : Nat) : Int)) (congrArg (Value.int .i64) (by omega)) (q_quo rfl rfl (by omega) (by omega) (by first | rfl | (simp only [IntKind.wrap_i64]; omega)))) ?_; refine sq (by exact Qt.cast (v' := .int .i64 ((64 * (len0 / 64) : Nat) : Int)) (congrArg (Value.int .i64) (by omega)) (q_mul64 rfl rfl ⟨by omega, by omega⟩ rfl)) ?_; refine sq qa ?_; refine l_nil ?_) | refine n_then ?_ | refine c_block ?_ | refine c_skip ?_ | refine n_block ?_ | refine c_exit ?_ | refine n_then_exit ?_ | refine n_block_eq ?_ | refine n_block_ne rfl ?_ | refine c_ret ?_ | refine n_then_ret ?_ | refine n_block_ret ?_ | refine c_cond_t rfl ?_ | refine c_cond_f rfl ?_ | refine r_succ ?_ )
  refine fgs (A := (DskL gd gw gm D ++ [LgB gl gd fr room h (.slice b0 len0 cap0) ov])) (R := []) (by (repeat (first | exact Sp.nil | (apply Sp.cons; focus (repeat (first | exact Rm.here | apply Rm.there)))))) ?_
  refine c_loop (γ := Nat × Dk × Nat) (fun z => [(5, .int .i64 ((64 * z.1 : Nat) : Int)), (0, .pointer (some ⟨gl, 0, none⟩)), (1, .slice a n cap), (4, .int .i64 0)]) (fun z => z.2.2) (fun z => (DskL gd gw gm z.2.1 ++ [LgB gl gd fr room h (.slice b0 len0 cap0) ov])) (fun z => z.1 ≤ (n + 63) / 64 ∧ z.2.1.OK nd ∧ wrAll (rmW fr xs ((n + 63) / 64 - z.1) z.1) z.2.1 = r ∧ w.heap.size ≤ z.2.2) (fun z => (n + 63) / 64 - z.1) ⟨len0 / 64, D, w.heap.size⟩ ⟨by dsimp only; omega, hok, hr.symm, Nat.le_refl _⟩ ⟨rfl, rfl, rfl, rfl, trivial⟩ rfl (List.Sublist.refl _) ?_
  rintro ⟨q, Dq, mm⟩ ⟨hq, hokq, hrq, hmm⟩
  dsimp only at hq hokq hrq hmm ⊢
  by_cases h8 : 64 * q < n
  · obtain ⟨gx, ox, rfl, hO⟩ := hs.get (i := 0) (by omega)
    have hgx := hx gx ox rfl
    have hOq : Old w gx (ox + 64 * q) (((xs.drop (64 * q)).take 64).map (Value.int .u8)) := by
      have h9 := (hO.drp (64 * q)).tak 64
      rwa [← List.map_drop, ← List.map_take] at h9
    obtain ⟨k9, hk9⟩ : ∃ k9, (n + 63) / 64 - q = k9 + 1 := ⟨(n + 63) / 64 - q - 1, by omega⟩
    have hk8 : (n + 63) / 64 - (q + 1) = k9 := by omega
    rw [hk9, rmW, wrAll] at hrq
    by_cases hpq : Dq.pgone = true
    · rw [if_pos hpq] at hrq
      subst hrq
      repeat (first | refine c_seq ?_ | (refine c_region (id := 2) ?_; refine sq qm ?_; refine sq qm ?_; refine sq qls ?_; refine sq (by first | exact dlsst | exact dlssf) ?_; refine l_nil ?_) | (refine c_region (id := 4) ?_; refine se ?_; refine ea ?_; refine l_nil ?_) | (refine x_region (id := 5) (some 4) [(0, .n), (1, .n), (2, .n), (3, .n), (4, .b)] _ mixed (by kernel_rfl) (List.Sublist.refl _) ?_; refine xn rfl qsa ?_; refine xn rfl qm ?_; refine xn rfl qm ?_; refine xn rfl (by exact qs (b' := some ⟨gx, ox + 64 * q, none⟩) (hb' := by rw [if_neg (by omega)]; simp [Addr.add_mid])) ?_; refine x_b rfl ?_; refine e_copy (cs := (List.replicate 64 (Value.int .u8 0)).toArray) (news := ((xs.drop (64 * q)).take 64).map (Value.int .u8)) (k := min (n - 64 * q) 64) rfl rfl rfl (RdN.old hOq hgx) (by simp [hn]; omega) (allOne_u8L _) (by rw [sec_set _ _ (by omega)]; (repeat (first | exact Pl.here | apply Pl.there))) (by simp [hn]; omega) (by first | (left; simp; done) | (right; omega)) (by simp [hn]; omega) ?_; refine x_k (List.nil_sublist _) ?_; refine x_nil ?_) | refine n_then ?_ | refine c_block ?_ | refine c_skip ?_ | refine n_block ?_ | refine c_exit ?_ | refine n_then_exit ?_ | refine n_block_eq ?_ | refine n_block_ne rfl ?_ | refine c_ret ?_ | refine n_then_ret ?_ | refine n_block_ret ?_ | refine c_cond_t rfl ?_ | refine c_cond_f rfl ?_ | refine r_succ ?_ )
      repeat (first | refine c_seq ?_ | (refine x_region (id := 6) none [(0, .n), (1, .n), (2, .n), (3, .q), (4, .n), (5, .n), (6, .n), (7, .q), (8, .n), (9, .n), (10, .n), (11, .n), (12, .n), (13, .e), (14, .n)] [LgB gl gd fr room h (.slice b0 len0 cap0) ov] mixed (by kernel_rfl) (by (repeat (first | exact List.nil_sublist _ | exact List.Sublist.slnil | apply List.Sublist.cons_cons | exact List.Sublist.refl _ | apply List.Sublist.cons))) ?_; refine xn rfl qm ?_; refine xn rfl qn ?_; refine xn rfl qf ?_; refine xq rfl ql ?_; refine xn rfl qm ?_; refine xn rfl qn ?_; refine xn rfl qf ?_; refine xq rfl ql ?_; refine xn rfl qadd64 ?_; refine xn rfl qm ?_; refine xn rfl (by exact Qt.cast (v' := .int .i64 ((q : Nat) : Int)) (congrArg (Value.int .i64) (by omega)) (q_quo rfl rfl (by omega) (by omega) (by first | rfl | (simp only [IntKind.wrap_i64]; omega)))) ?_; refine xn rfl (by exact Qt.cast (v' := .int .i64 ((fr + (2 + q) : Nat) : Int)) (congrArg (Value.int .i64) (by omega)) (q_add64 rfl rfl ⟨by omega, by omega⟩ rfl)) ?_; refine xn rfl qsa ?_; refine x_e rfl ?_; refine e_callX (DskL gd gw gm Dq) _ rfl rfl (by kernel_rfl) rfl (by (repeat (first | exact Sp.nil | (apply Sp.cons; focus (repeat (first | exact Rm.here | apply Rm.there)))))) (fun w hC hm hA hL hap => by exact wr_lost gd gw gm Dq hokq.hf hpq (fr + (2 + q)) (by rw [hokq.len]; omega) _ _ w hA) (by intro g hg; rw [feetD] at hg; exact .inl hg) (fun _ => rfl) ?_; intro _ m6 _ _ hm6; refine xk ?_; refine xn rfl qa ?_; refine x_nil ?_) | (refine c_region (id := 7) ?_; refine sq qm ?_; refine sq (by first | exact dneqt | exact dneqf) ?_; refine l_nil ?_) | (refine c_region (id := 8) ?_; refine sq qm ?_; refine sq qa ?_; refine l_nil ?_) | refine n_then ?_ | refine c_block ?_ | refine c_skip ?_ | refine n_block ?_ | refine c_exit ?_ | refine n_then_exit ?_ | refine n_block_eq ?_ | refine n_block_ne rfl ?_ | refine c_ret ?_ | refine n_then_ret ?_ | refine n_block_ret ?_ | refine c_cond_t rfl ?_ | refine c_cond_f rfl ?_ | refine r_succ ?_ )
      (first | apply r_ret () | apply r_end ()); exact rfl; exact rfl; exact (.tmp rfl .nil); exact rfl; exact (by exact (by (repeat (first | exact List.nil_sublist _ | exact List.Sublist.slnil | apply List.Sublist.cons_cons | exact List.Sublist.refl _ | apply List.Sublist.cons)))); exact (by intro g hg; rw [feetD] at hg; exact .inl hg); exact trivial
    · have hpq : Dq.pgone = false := by simpa using hpq
      rw [if_neg (by simp [hpq])] at hrq
      have hok2 := (hokq.lit hpq).put (fr + (2 + q)) (by omega) (secAt xs q)
      repeat (first | refine c_seq ?_ | (refine c_region (id := 2) ?_; refine sq qm ?_; refine sq qm ?_; refine sq qls ?_; refine sq (by first | exact dlsst | exact dlssf) ?_; refine l_nil ?_) | (refine c_region (id := 4) ?_; refine se ?_; refine ea ?_; refine l_nil ?_) | (refine x_region (id := 5) (some 4) [(0, .n), (1, .n), (2, .n), (3, .n), (4, .b)] _ mixed (by kernel_rfl) (List.Sublist.refl _) ?_; refine xn rfl qsa ?_; refine xn rfl qm ?_; refine xn rfl qm ?_; refine xn rfl (by exact qs (b' := some ⟨gx, ox + 64 * q, none⟩) (hb' := by rw [if_neg (by omega)]; simp [Addr.add_mid])) ?_; refine x_b rfl ?_; refine e_copy (cs := (List.replicate 64 (Value.int .u8 0)).toArray) (news := ((xs.drop (64 * q)).take 64).map (Value.int .u8)) (k := min (n - 64 * q) 64) rfl rfl rfl (RdN.old hOq hgx) (by simp [hn]; omega) (allOne_u8L _) (by rw [sec_set _ _ (by omega)]; (repeat (first | exact Pl.here | apply Pl.there))) (by simp [hn]; omega) (by first | (left; simp; done) | (right; omega)) (by simp [hn]; omega) ?_; refine x_k (List.nil_sublist _) ?_; refine x_nil ?_) | refine n_then ?_ | refine c_block ?_ | refine c_skip ?_ | refine n_block ?_ | refine c_exit ?_ | refine n_then_exit ?_ | refine n_block_eq ?_ | refine n_block_ne rfl ?_ | refine c_ret ?_ | refine n_then_ret ?_ | refine n_block_ret ?_ | refine c_cond_t rfl ?_ | refine c_cond_f rfl ?_ | refine r_succ ?_ )
      repeat (first | refine c_seq ?_ | (refine c_region (id := 3) ?_; refine sq qm ?_; refine sq (by exact Qt.cast (v' := .int .i64 ((64 * (q + 1) : Nat) : Int)) (congrArg (Value.int .i64) (by omega)) (q_add64 rfl rfl ⟨by omega, by omega⟩ rfl)) ?_; refine sq qa ?_; refine l_nil ?_) | (refine x_region (id := 6) none [(0, .n), (1, .n), (2, .n), (3, .q), (4, .n), (5, .n), (6, .n), (7, .q), (8, .n), (9, .n), (10, .n), (11, .n), (12, .n), (13, .e), (14, .n)] [LgB gl gd fr room h (.slice b0 len0 cap0) ov] mixed (by kernel_rfl) (by (repeat (first | exact List.nil_sublist _ | exact List.Sublist.slnil | apply List.Sublist.cons_cons | exact List.Sublist.refl _ | apply List.Sublist.cons))) ?_; refine xn rfl qm ?_; refine xn rfl qn ?_; refine xn rfl qf ?_; refine xq rfl ql ?_; refine xn rfl qm ?_; refine xn rfl qn ?_; refine xn rfl qf ?_; refine xq rfl ql ?_; refine xn rfl qadd64 ?_; refine xn rfl qm ?_; refine xn rfl (by exact Qt.cast (v' := .int .i64 ((q : Nat) : Int)) (congrArg (Value.int .i64) (by omega)) (q_quo rfl rfl (by omega) (by omega) (by first | rfl | (simp only [IntKind.wrap_i64]; omega)))) ?_; refine xn rfl (by exact Qt.cast (v' := .int .i64 ((fr + (2 + q) : Nat) : Int)) (congrArg (Value.int .i64) (by omega)) (q_add64 rfl rfl ⟨by omega, by omega⟩ rfl)) ?_; refine xn rfl qsa ?_; refine x_e rfl ?_; refine e_callX (DskL gd gw gm Dq) _ rfl rfl (by kernel_rfl) rfl (by (repeat (first | exact Sp.nil | (apply Sp.cons; focus (repeat (first | exact Rm.here | apply Rm.there)))))) (fun w hC hm hA hL hap => by exact wr_ok gd gw gm Dq hokq.hf hpq hokq.le (fr + (2 + q)) (by rw [hokq.len]; omega) (secAt xs q) (some ⟨_, 0, none⟩) 64 w (SlE.blk hL (by (repeat (first | exact List.Mem.head _ | apply List.Mem.tail))) 0 64 (by rw [List.drop_zero]; exact List.take_of_length_le (by simp [secL_len]))) (apart_blk (by (repeat (first | exact List.Mem.head _ | apply List.Mem.tail))) hap) hA) (by intro g hg; rw [feetD] at hg; exact .inl hg) (fun _ => rfl) ?_; intro _ m6 _ _ hm6; refine xk ?_; refine xn rfl qa ?_; refine x_nil ?_) | (refine c_region (id := 7) ?_; refine sq qm ?_; refine sq (by first | exact dneqt | exact dneqf) ?_; refine l_nil ?_) | refine n_then ?_ | refine c_block ?_ | refine c_skip ?_ | refine n_block ?_ | refine c_exit ?_ | refine n_then_exit ?_ | refine n_block_eq ?_ | refine n_block_ne rfl ?_ | refine c_ret ?_ | refine n_then_ret ?_ | refine n_block_ret ?_ | refine c_cond_t rfl ?_ | refine c_cond_f rfl ?_ | refine r_succ ?_ )
      refine c_round ⟨q + 1, Dq.lit.put (fr + (2 + q)) (secAt xs q), m6⟩ ⟨by dsimp only; omega, hok2, by dsimp only; rw [hk8]; exact hrq, by dsimp only; omega⟩ (by dsimp only; omega) ⟨rfl, rfl, rfl, rfl, trivial⟩ (by rfl) (by exact (by (repeat (first | exact List.nil_sublist _ | exact List.Sublist.slnil | apply List.Sublist.cons_cons | exact List.Sublist.refl _ | apply List.Sublist.cons))))
  · have hk9 : (n + 63) / 64 - q = 0 := by omega
    rw [hk9, rmW, wrAll, Dk.sy] at hrq
    by_cases hpq : Dq.pgone = true
    · rw [if_pos hpq] at hrq
      subst hrq
      repeat (first | refine c_seq ?_ | (refine c_region (id := 2) ?_; refine sq qm ?_; refine sq qm ?_; refine sq qls ?_; refine sq (by first | exact dlsst | exact dlssf) ?_; refine l_nil ?_) | (refine c_region (id := 9) ?_; refine sq qm ?_; refine sq qn ?_; refine sq qf ?_; refine sq ql ?_; refine se ?_; refine e_callX (DskL gd gw gm Dq) _ rfl rfl (by kernel_rfl) rfl (by (repeat (first | exact Sp.nil | (apply Sp.cons; focus (repeat (first | exact Rm.here | apply Rm.there)))))) (fun w hC hm hA hL hap => by exact sync_lost gd gw gm Dq hokq.hf hpq w hA) (by intro g hg; rw [feetD] at hg; exact .inl hg) (fun _ => rfl) ?_; intro _ m6 _ _ hm6; refine sq qa ?_; refine l_nil ?_) | refine n_then ?_ | refine c_block ?_ | refine c_skip ?_ | refine n_block ?_ | refine c_exit ?_ | refine n_then_exit ?_ | refine n_block_eq ?_ | refine n_block_ne rfl ?_ | refine c_ret ?_ | refine n_then_ret ?_ | refine n_block_ret ?_ | refine c_cond_t rfl ?_ | refine c_cond_f rfl ?_ | refine r_succ ?_ )
      (first | apply r_ret () | apply r_end ()); exact rfl; exact rfl; exact (.tmp rfl .nil); exact rfl; exact (by exact (by (repeat (first | exact List.nil_sublist _ | exact List.Sublist.slnil | apply List.Sublist.cons_cons | exact List.Sublist.refl _ | apply List.Sublist.cons)))); exact (by intro g hg; rw [feetD] at hg; exact .inl hg); exact trivial
    · have hpq : Dq.pgone = false := by simpa using hpq
      rw [if_neg (by simp [hpq])] at hrq
      subst hrq
      repeat (first | refine c_seq ?_ | (refine c_region (id := 2) ?_; refine sq qm ?_; refine sq qm ?_; refine sq qls ?_; refine sq (by first | exact dlsst | exact dlssf) ?_; refine l_nil ?_) | (refine c_region (id := 9) ?_; refine sq qm ?_; refine sq qn ?_; refine sq qf ?_; refine sq ql ?_; refine se ?_; refine e_callX (DskL gd gw gm Dq) _ rfl rfl (by kernel_rfl) rfl (by (repeat (first | exact Sp.nil | (apply Sp.cons; focus (repeat (first | exact Rm.here | apply Rm.there)))))) (fun w hC hm hA hL hap => by exact sync_ok gd gw gm Dq hokq.hf hpq w hA) (by intro g hg; rw [feetD] at hg; exact .inl hg) (fun _ => rfl) ?_; intro _ m6 _ _ hm6; refine sq qa ?_; refine l_nil ?_) | refine n_then ?_ | refine c_block ?_ | refine c_skip ?_ | refine n_block ?_ | refine c_exit ?_ | refine n_then_exit ?_ | refine n_block_eq ?_ | refine n_block_ne rfl ?_ | refine c_ret ?_ | refine n_then_ret ?_ | refine n_block_ret ?_ | refine c_cond_t rfl ?_ | refine c_cond_f rfl ?_ | refine r_succ ?_ )
      (first | apply r_ret () | apply r_end ()); exact rfl; exact rfl; exact (.tmp rfl .nil); exact rfl; exact (by exact (by (repeat (first | exact List.nil_sublist _ | exact List.Sublist.slnil | apply List.Sublist.cons_cons | exact List.Sublist.refl _ | apply List.Sublist.cons)))); exact (by intro g hg; rw [feetD] at hg; exact .inl hg); exact trivial
end Go.Proofs.YtgmghkakiocmjaaGreatDoor
namespace Go.Proofs.YtgmghkakiocmjaaGreatDoor
open Go Go.RowKit
set_option linter.unusedVariables false
set_option linter.unusedSimpArgs false
set_option maxRecDepth 100000 in
set_option maxHeartbeats 4000000 in
theorem become_0 (gl gd gw gm fr room : Nat) (h h' : Hd) (s : Value) (D : Dk) (nd : Nat) (hok : D.OK nd) (b : Option Addr) (n cap : Nat) (hn9 : n ≤ 2000000) (hser : 0 ≤ h.ser ∧ h.ser < 4611686018427387904) (h1 : h'.ser = h.ser + 1) (h2 : h'.cnt = n) (p : Nat) (hp : (p : Int) = h'.ser % 2) (hfit : fr + 2 ≤ nd) (hp0 : D.pgone = true) (w : World) (hL0 : Has (LgB gl gd fr room h s false :: DskL gd gw gm D) w) :
    CA Tryz.prog 52 [.pointer (some ⟨gl, 0, none⟩), .slice b n cap, .agg (noteE h'.nt).toArray] w (Ret (fun _ : Unit => .int .i64 5) [gl, gd, gw, gm] (fun _ => (LgB gl gd fr room h s true :: DskL gd gw gm D.dead)) (fun _ => True) w) := by
  have hnd := hok.n9
  refine enter (L := (LgB gl gd fr room h s false :: DskL gd gw gm D)) (X := [gl, gd, gw, gm]) Tryz.func52 rfl Tryz.ntmps52 rfl rfl hL0 ?_
  repeat (first | refine c_seq ?_ | (refine c_region (id := 0) ?_; refine se ?_; refine eb ?_; refine sq qa ?_; refine l_nil ?_) | (refine x_region (id := 1) (some 12) [(0, .n), (1, .n), (2, .n), (3, .n), (4, .q), (5, .n), (6, .n), (7, .n), (8, .n), (9, .q), (10, .n), (11, .e), (12, .b)] _ mixed (by kernel_rfl) (List.Sublist.refl _) ?_; refine xn rfl qm ?_; refine xn rfl qn ?_; refine xn rfl qf ?_; refine xn rfl qf ?_; refine xq rfl ql ?_; refine xn rfl (by exact Qt.cast (v' := .int .u64 h'.ser) (congrArg (Value.int .u64) (by omega)) (q_addU rfl rfl)) ?_; refine xn rfl qm ?_; refine xn rfl qls ?_; refine xn rfl (by exact Qt.cast (v' := .int .u64 h'.cnt) (congrArg (Value.int .u64) (by omega)) (q_convU rfl)) ?_; refine xq rfl (by exact qlb (hl := by rfl)) ?_; refine xn rfl qbs ?_; refine x_e rfl ?_; refine ea ?_; refine xk ?_; refine x_b rfl ?_; refine esa ?_ (hk := by rfl) (ho := by rfl) (hoff := by rfl); refine x_k (List.nil_sublist _) ?_; refine x_nil ?_) | refine n_then ?_ | refine c_block ?_ | refine c_skip ?_ | refine n_block ?_ | refine c_exit ?_ | refine n_then_exit ?_ | refine n_block_eq ?_ | refine n_block_ne rfl ?_ | refine c_ret ?_ | refine n_then_ret ?_ | refine n_block_ret ?_ | refine c_cond_t rfl ?_ | refine c_cond_f rfl ?_ | refine r_succ ?_ )
  repeat (first | refine c_seq ?_ | (refine x_region (id := 2) none [(0, .n), (1, .n), (2, .n), (3, .q), (4, .n), (5, .n), (6, .n), (7, .q), (8, .q), (11, .q), (9, .e), (10, .n), (12, .e), (13, .e), (14, .n)] [.blk (w.heap.size + 1) (.cells (headE h').toArray 86 (0, 0)), LgB gl gd fr room h s false] mixed (by kernel_rfl) (by (repeat (first | exact List.nil_sublist _ | exact List.Sublist.slnil | apply List.Sublist.cons_cons | exact List.Sublist.refl _ | apply List.Sublist.cons))) ?_; refine xn rfl qm ?_; refine xn rfl qn ?_; refine xn rfl qf ?_; refine xq rfl ql ?_; refine xn rfl qm ?_; refine xn rfl qn ?_; refine xn rfl qf ?_; refine xq rfl ql ?_; refine xq rfl (by exact qlb (hl := by rfl)) ?_; refine xq rfl (by exact qlb (hl := by rfl)) ?_; refine x_e rfl ?_; refine ecp rfl rfl (fun w hC hm hL => by exact place_c h' (by omega) w) ?_; intro m' hm'; refine xk ?_; refine xn rfl (by exact Qt.cast (v' := .int .i64 ((fr + p : Nat) : Int)) (congrArg (Value.int .i64) (by omega)) (q_add64 rfl rfl ⟨by omega, by omega⟩ rfl)) ?_; refine x_e rfl ?_; refine e_callL (enc := (Value.int .u8)) (e := 5) rfl rfl (by kernel_rfl) rfl (fun w hC hm hL => by exact sector_c h' w) ?_; intro b1 cap1 zs1 m1 hz1 ho1 hm1; subst hz1; rw [secL_len] at ho1; simp only [secL_len]; refine xk ?_; refine x_e rfl ?_; refine e_callX (DskL gd gw gm D) _ rfl rfl (by kernel_rfl) rfl (by (repeat (first | exact Sp.nil | (apply Sp.cons; focus (repeat (first | exact Rm.here | apply Rm.there)))))) (fun w hC hm hA hL hap => by exact wr_lost gd gw gm D hok.hf hp0 (fr + p) (by rw [hok.len]; omega) _ _ w hA) (by intro g hg; rw [feetD] at hg; exact .inl (by simp at hg ⊢; omega)) (fun _ => rfl) ?_; intro _ m6 _ _ hm6; refine xk ?_; refine xn rfl qa ?_; refine x_nil ?_) | (refine c_region (id := 3) ?_; refine sq qm ?_; refine sq (by first | exact dneqt | exact dneqf) ?_; refine l_nil ?_) | (refine c_region (id := 4) ?_; refine sq qm ?_; refine se ?_; refine e_call_upd rfl rfl (by kernel_rfl) rfl (fun w hC hm hL => by exact end_c gl gd fr room h s false w (hL.sub (by (repeat (first | exact List.nil_sublist _ | exact List.Sublist.slnil | apply List.Sublist.cons_cons | exact List.Sublist.refl _ | apply List.Sublist.cons))))) (by (repeat (first | exact Pl.here | apply Pl.there))) (.inl (by simp)) ?_; intro m' hm'; refine sq qa ?_; refine l_nil ?_) | refine n_then ?_ | refine c_block ?_ | refine c_skip ?_ | refine n_block ?_ | refine c_exit ?_ | refine n_then_exit ?_ | refine n_block_eq ?_ | refine n_block_ne rfl ?_ | refine c_ret ?_ | refine n_then_ret ?_ | refine n_block_ret ?_ | refine c_cond_t rfl ?_ | refine c_cond_f rfl ?_ | refine r_succ ?_ )
  refine fgs (A := (LgB gl gd fr room h s true :: DskL gd gw gm D.dead)) (by (repeat (first | exact Sp.nil | (apply Sp.cons; focus (repeat (first | exact Rm.here | apply Rm.there)))))) ?_
  (first | apply r_ret () | apply r_end ()); exact rfl; exact rfl; exact (.tmp rfl .nil); exact rfl; exact (List.Sublist.refl _); exact (by intro g hg; simp [feet, Chunk.foot] at hg; exact .inl (by simp; omega)); exact trivial
set_option maxRecDepth 100000 in
set_option maxHeartbeats 4000000 in
theorem become_1 (gl gd gw gm fr room : Nat) (h h' : Hd) (s : Value) (D : Dk) (nd : Nat) (hok : D.OK nd) (b : Option Addr) (n cap : Nat) (hn9 : n ≤ 2000000) (hser : 0 ≤ h.ser ∧ h.ser < 4611686018427387904) (h1 : h'.ser = h.ser + 1) (h2 : h'.cnt = n) (p : Nat) (hp : (p : Int) = h'.ser % 2) (hfit : fr + 2 ≤ nd) (hp0 : D.pgone = false) (hp1 : (D.lit.put (fr + p) (secH h')).pgone = true) (w : World) (hL0 : Has (LgB gl gd fr room h s false :: DskL gd gw gm D) w) :
    CA Tryz.prog 52 [.pointer (some ⟨gl, 0, none⟩), .slice b n cap, .agg (noteE h'.nt).toArray] w (Ret (fun _ : Unit => .int .i64 5) [gl, gd, gw, gm] (fun _ => (LgB gl gd fr room h s true :: DskL gd gw gm (D.lit.put (fr + p) (secH h')).dead)) (fun _ => True) w) := by
  have hok1 := (hok.lit hp0).put (fr + p) (by omega) (secH h')
  have hnd := hok.n9
  refine enter (L := (LgB gl gd fr room h s false :: DskL gd gw gm D)) (X := [gl, gd, gw, gm]) Tryz.func52 rfl Tryz.ntmps52 rfl rfl hL0 ?_
  repeat (first | refine c_seq ?_ | (refine c_region (id := 0) ?_; refine se ?_; refine eb ?_; refine sq qa ?_; refine l_nil ?_) | (refine x_region (id := 1) (some 12) [(0, .n), (1, .n), (2, .n), (3, .n), (4, .q), (5, .n), (6, .n), (7, .n), (8, .n), (9, .q), (10, .n), (11, .e), (12, .b)] _ mixed (by kernel_rfl) (List.Sublist.refl _) ?_; refine xn rfl qm ?_; refine xn rfl qn ?_; refine xn rfl qf ?_; refine xn rfl qf ?_; refine xq rfl ql ?_; refine xn rfl (by exact Qt.cast (v' := .int .u64 h'.ser) (congrArg (Value.int .u64) (by omega)) (q_addU rfl rfl)) ?_; refine xn rfl qm ?_; refine xn rfl qls ?_; refine xn rfl (by exact Qt.cast (v' := .int .u64 h'.cnt) (congrArg (Value.int .u64) (by omega)) (q_convU rfl)) ?_; refine xq rfl (by exact qlb (hl := by rfl)) ?_; refine xn rfl qbs ?_; refine x_e rfl ?_; refine ea ?_; refine xk ?_; refine x_b rfl ?_; refine esa ?_ (hk := by rfl) (ho := by rfl) (hoff := by rfl); refine x_k (List.nil_sublist _) ?_; refine x_nil ?_) | refine n_then ?_ | refine c_block ?_ | refine c_skip ?_ | refine n_block ?_ | refine c_exit ?_ | refine n_then_exit ?_ | refine n_block_eq ?_ | refine n_block_ne rfl ?_ | refine c_ret ?_ | refine n_then_ret ?_ | refine n_block_ret ?_ | refine c_cond_t rfl ?_ | refine c_cond_f rfl ?_ | refine r_succ ?_ )
  repeat (first | refine c_seq ?_ | (refine x_region (id := 2) none [(0, .n), (1, .n), (2, .n), (3, .q), (4, .n), (5, .n), (6, .n), (7, .q), (8, .q), (11, .q), (9, .e), (10, .n), (12, .e), (13, .e), (14, .n)] [.blk (w.heap.size + 1) (.cells (headE h').toArray 86 (0, 0)), LgB gl gd fr room h s false] mixed (by kernel_rfl) (by (repeat (first | exact List.nil_sublist _ | exact List.Sublist.slnil | apply List.Sublist.cons_cons | exact List.Sublist.refl _ | apply List.Sublist.cons))) ?_; refine xn rfl qm ?_; refine xn rfl qn ?_; refine xn rfl qf ?_; refine xq rfl ql ?_; refine xn rfl qm ?_; refine xn rfl qn ?_; refine xn rfl qf ?_; refine xq rfl ql ?_; refine xq rfl (by exact qlb (hl := by rfl)) ?_; refine xq rfl (by exact qlb (hl := by rfl)) ?_; refine x_e rfl ?_; refine ecp rfl rfl (fun w hC hm hL => by exact place_c h' (by omega) w) ?_; intro m' hm'; refine xk ?_; refine xn rfl (by exact Qt.cast (v' := .int .i64 ((fr + p : Nat) : Int)) (congrArg (Value.int .i64) (by omega)) (q_add64 rfl rfl ⟨by omega, by omega⟩ rfl)) ?_; refine x_e rfl ?_; refine e_callL (enc := (Value.int .u8)) (e := 5) rfl rfl (by kernel_rfl) rfl (fun w hC hm hL => by exact sector_c h' w) ?_; intro b1 cap1 zs1 m1 hz1 ho1 hm1; subst hz1; rw [secL_len] at ho1; simp only [secL_len]; refine xk ?_; refine x_e rfl ?_; refine e_callX (DskL gd gw gm D) _ rfl rfl (by kernel_rfl) rfl (by (repeat (first | exact Sp.nil | (apply Sp.cons; focus (repeat (first | exact Rm.here | apply Rm.there)))))) (fun w hC hm hA hL hap => by exact wr_ok gd gw gm D hok.hf hp0 hok.le (fr + p) (by rw [hok.len]; omega) (secH h') _ _ w (SlE.own hL (by (repeat (first | exact List.Mem.head _ | apply List.Mem.tail))) ho1) (apart_sl (by (repeat (first | exact List.Mem.head _ | apply List.Mem.tail))) hap) hA) (by intro g hg; rw [feetD] at hg; exact .inl (by simp at hg ⊢; omega)) (fun _ => rfl) ?_; intro _ m6 _ _ hm6; refine xk ?_; refine xn rfl qa ?_; refine x_nil ?_) | (refine c_region (id := 3) ?_; refine sq qm ?_; refine sq (by first | exact dneqt | exact dneqf) ?_; refine l_nil ?_) | (refine c_region (id := 5) ?_; refine sq qm ?_; refine sq qn ?_; refine sq qf ?_; refine sq ql ?_; refine se ?_; refine e_callX (DskL gd gw gm (D.lit.put (fr + p) (secH h'))) _ rfl rfl (by kernel_rfl) rfl (by (repeat (first | exact Sp.nil | (apply Sp.cons; focus (repeat (first | exact Rm.here | apply Rm.there)))))) (fun w hC hm hA hL hap => by exact sync_lost gd gw gm (D.lit.put (fr + p) (secH h')) hok1.hf hp1 w hA) (by intro g hg; rw [feetD] at hg; exact .inl (by simp at hg ⊢; omega)) (fun _ => rfl) ?_; intro _ m7 _ _ hm7; refine sq qa ?_; refine l_nil ?_) | (refine c_region (id := 6) ?_; refine sq qm ?_; refine sq (by first | exact dneqt | exact dneqf) ?_; refine l_nil ?_) | (refine c_region (id := 7) ?_; refine sq qm ?_; refine se ?_; refine e_call_upd rfl rfl (by kernel_rfl) rfl (fun w hC hm hL => by exact end_c gl gd fr room h s false w (hL.sub (by (repeat (first | exact List.nil_sublist _ | exact List.Sublist.slnil | apply List.Sublist.cons_cons | exact List.Sublist.refl _ | apply List.Sublist.cons))))) (by (repeat (first | exact Pl.here | apply Pl.there))) (.inl (by simp)) ?_; intro m' hm'; refine sq qa ?_; refine l_nil ?_) | refine n_then ?_ | refine c_block ?_ | refine c_skip ?_ | refine n_block ?_ | refine c_exit ?_ | refine n_then_exit ?_ | refine n_block_eq ?_ | refine n_block_ne rfl ?_ | refine c_ret ?_ | refine n_then_ret ?_ | refine n_block_ret ?_ | refine c_cond_t rfl ?_ | refine c_cond_f rfl ?_ | refine r_succ ?_ )
  refine fgs (A := (LgB gl gd fr room h s true :: DskL gd gw gm (D.lit.put (fr + p) (secH h')).dead)) (by (repeat (first | exact Sp.nil | (apply Sp.cons; focus (repeat (first | exact Rm.here | apply Rm.there)))))) ?_
  (first | apply r_ret () | apply r_end ()); exact rfl; exact rfl; exact (.tmp rfl .nil); exact rfl; exact (List.Sublist.refl _); exact (by intro g hg; simp [feet, Chunk.foot] at hg; exact .inl (by simp; omega)); exact trivial
set_option maxRecDepth 100000 in
set_option maxHeartbeats 4000000 in
theorem become_2 (gl gd gw gm fr room : Nat) (h h' : Hd) (s : Value) (D : Dk) (nd : Nat) (hok : D.OK nd) (b : Option Addr) (n cap : Nat) (hn9 : n ≤ 2000000) (hser : 0 ≤ h.ser ∧ h.ser < 4611686018427387904) (h1 : h'.ser = h.ser + 1) (h2 : h'.cnt = n) (p : Nat) (hp : (p : Int) = h'.ser % 2) (hfit : fr + 2 ≤ nd) (hp0 : D.pgone = false) (hp1 : (D.lit.put (fr + p) (secH h')).pgone = false) (w : World) (hL0 : Has (LgB gl gd fr room h s false :: DskL gd gw gm D) w) :
    CA Tryz.prog 52 [.pointer (some ⟨gl, 0, none⟩), .slice b n cap, .agg (noteE h'.nt).toArray] w (Ret (fun _ : Unit => .int .i64 0) [gl, gd, gw, gm] (fun _ => (LgB gl gd fr room h' (.slice b n cap) false :: DskL gd gw gm (D.lit.put (fr + p) (secH h')).lit.still)) (fun _ => True) w) := by
  have hok1 := (hok.lit hp0).put (fr + p) (by omega) (secH h')
  have hnd := hok.n9
  refine enter (L := (LgB gl gd fr room h s false :: DskL gd gw gm D)) (X := [gl, gd, gw, gm]) Tryz.func52 rfl Tryz.ntmps52 rfl rfl hL0 ?_
  repeat (first | refine c_seq ?_ | (refine c_region (id := 0) ?_; refine se ?_; refine eb ?_; refine sq qa ?_; refine l_nil ?_) | (refine x_region (id := 1) (some 12) [(0, .n), (1, .n), (2, .n), (3, .n), (4, .q), (5, .n), (6, .n), (7, .n), (8, .n), (9, .q), (10, .n), (11, .e), (12, .b)] _ mixed (by kernel_rfl) (List.Sublist.refl _) ?_; refine xn rfl qm ?_; refine xn rfl qn ?_; refine xn rfl qf ?_; refine xn rfl qf ?_; refine xq rfl ql ?_; refine xn rfl (by exact Qt.cast (v' := .int .u64 h'.ser) (congrArg (Value.int .u64) (by omega)) (q_addU rfl rfl)) ?_; refine xn rfl qm ?_; refine xn rfl qls ?_; refine xn rfl (by exact Qt.cast (v' := .int .u64 h'.cnt) (congrArg (Value.int .u64) (by omega)) (q_convU rfl)) ?_; refine xq rfl (by exact qlb (hl := by rfl)) ?_; refine xn rfl qbs ?_; refine x_e rfl ?_; refine ea ?_; refine xk ?_; refine x_b rfl ?_; refine esa ?_ (hk := by rfl) (ho := by rfl) (hoff := by rfl); refine x_k (List.nil_sublist _) ?_; refine x_nil ?_) | refine n_then ?_ | refine c_block ?_ | refine c_skip ?_ | refine n_block ?_ | refine c_exit ?_ | refine n_then_exit ?_ | refine n_block_eq ?_ | refine n_block_ne rfl ?_ | refine c_ret ?_ | refine n_then_ret ?_ | refine n_block_ret ?_ | refine c_cond_t rfl ?_ | refine c_cond_f rfl ?_ | refine r_succ ?_ )
  repeat (first | refine c_seq ?_ | (refine x_region (id := 2) none [(0, .n), (1, .n), (2, .n), (3, .q), (4, .n), (5, .n), (6, .n), (7, .q), (8, .q), (11, .q), (9, .e), (10, .n), (12, .e), (13, .e), (14, .n)] [.blk (w.heap.size + 1) (.cells (headE h').toArray 86 (0, 0)), LgB gl gd fr room h s false] mixed (by kernel_rfl) (by (repeat (first | exact List.nil_sublist _ | exact List.Sublist.slnil | apply List.Sublist.cons_cons | exact List.Sublist.refl _ | apply List.Sublist.cons))) ?_; refine xn rfl qm ?_; refine xn rfl qn ?_; refine xn rfl qf ?_; refine xq rfl ql ?_; refine xn rfl qm ?_; refine xn rfl qn ?_; refine xn rfl qf ?_; refine xq rfl ql ?_; refine xq rfl (by exact qlb (hl := by rfl)) ?_; refine xq rfl (by exact qlb (hl := by rfl)) ?_; refine x_e rfl ?_; refine ecp rfl rfl (fun w hC hm hL => by exact place_c h' (by omega) w) ?_; intro m' hm'; refine xk ?_; refine xn rfl (by exact Qt.cast (v' := .int .i64 ((fr + p : Nat) : Int)) (congrArg (Value.int .i64) (by omega)) (q_add64 rfl rfl ⟨by omega, by omega⟩ rfl)) ?_; refine x_e rfl ?_; refine e_callL (enc := (Value.int .u8)) (e := 5) rfl rfl (by kernel_rfl) rfl (fun w hC hm hL => by exact sector_c h' w) ?_; intro b1 cap1 zs1 m1 hz1 ho1 hm1; subst hz1; rw [secL_len] at ho1; simp only [secL_len]; refine xk ?_; refine x_e rfl ?_; refine e_callX (DskL gd gw gm D) _ rfl rfl (by kernel_rfl) rfl (by (repeat (first | exact Sp.nil | (apply Sp.cons; focus (repeat (first | exact Rm.here | apply Rm.there)))))) (fun w hC hm hA hL hap => by exact wr_ok gd gw gm D hok.hf hp0 hok.le (fr + p) (by rw [hok.len]; omega) (secH h') _ _ w (SlE.own hL (by (repeat (first | exact List.Mem.head _ | apply List.Mem.tail))) ho1) (apart_sl (by (repeat (first | exact List.Mem.head _ | apply List.Mem.tail))) hap) hA) (by intro g hg; rw [feetD] at hg; exact .inl (by simp at hg ⊢; omega)) (fun _ => rfl) ?_; intro _ m6 _ _ hm6; refine xk ?_; refine xn rfl qa ?_; refine x_nil ?_) | (refine c_region (id := 3) ?_; refine sq qm ?_; refine sq (by first | exact dneqt | exact dneqf) ?_; refine l_nil ?_) | (refine c_region (id := 5) ?_; refine sq qm ?_; refine sq qn ?_; refine sq qf ?_; refine sq ql ?_; refine se ?_; refine e_callX (DskL gd gw gm (D.lit.put (fr + p) (secH h'))) _ rfl rfl (by kernel_rfl) rfl (by (repeat (first | exact Sp.nil | (apply Sp.cons; focus (repeat (first | exact Rm.here | apply Rm.there)))))) (fun w hC hm hA hL hap => by exact sync_ok gd gw gm (D.lit.put (fr + p) (secH h')) hok1.hf hp1 w hA) (by intro g hg; rw [feetD] at hg; exact .inl (by simp at hg ⊢; omega)) (fun _ => rfl) ?_; intro _ m7 _ _ hm7; refine sq qa ?_; refine l_nil ?_) | (refine c_region (id := 6) ?_; refine sq qm ?_; refine sq (by first | exact dneqt | exact dneqf) ?_; refine l_nil ?_) | (refine c_region (id := 8) ?_; refine sq qm ?_; refine sq qm ?_; refine sq (by exact qlb (hl := by rfl)) ?_; refine sq qm ?_; refine sq qn ?_; refine sq qf ?_; refine se ?_; refine e_store_row (vs := (headE h').toArray) rfl rfl (by rfl) (by rfl) (by rw [lg_set]; (repeat (first | exact Pl.here | apply Pl.there))) (by show 3 + 18 ≤ 23; omega) (.inl (by simp)) ?_; refine sq qn ?_; refine sq qf ?_; refine se ?_; refine es1 ?_ (hg := .inl (by simp)); refine l_nil ?_) | (refine c_region (id := 9) ?_; refine sq qa ?_; refine l_nil ?_) | refine n_then ?_ | refine c_block ?_ | refine c_skip ?_ | refine n_block ?_ | refine c_exit ?_ | refine n_then_exit ?_ | refine n_block_eq ?_ | refine n_block_ne rfl ?_ | refine c_ret ?_ | refine n_then_ret ?_ | refine n_block_ret ?_ | refine c_cond_t rfl ?_ | refine c_cond_f rfl ?_ | refine r_succ ?_ )
  refine fgs (A := (LgB gl gd fr room h' (.slice b n cap) false :: DskL gd gw gm (D.lit.put (fr + p) (secH h')).lit.still)) (by (repeat (first | exact Sp.nil | (apply Sp.cons; focus (repeat (first | exact Rm.here | apply Rm.there)))))) ?_
  (first | apply r_ret () | apply r_end ()); exact rfl; exact rfl; exact (.tmp rfl .nil); exact rfl; exact (List.Sublist.refl _); exact (by intro g hg; simp [feet, Chunk.foot] at hg; exact .inl (by simp; omega)); exact trivial
theorem become_c (gl gd gw gm fr room : Nat) (h h' : Hd) (s : Value) (D : Dk) (nd : Nat) (hok : D.OK nd) (b : Option Addr) (n cap : Nat) (hn9 : n ≤ 2000000) (hser : 0 ≤ h.ser ∧ h.ser < 4611686018427387904) (h1 : h'.ser = h.ser + 1) (h2 : h'.cnt = n) (p : Nat) (hp : (p : Int) = h'.ser % 2) (hfit : fr + 2 ≤ nd) (r : Bool × Dk) (hr : r = wrAll [(fr + p, secH h')] D) (w : World) (hL0 : Has (LgB gl gd fr room h s false :: DskL gd gw gm D) w) :
    CA Tryz.prog 52 [.pointer (some ⟨gl, 0, none⟩), .slice b n cap, .agg (noteE h'.nt).toArray] w (Ret (fun _ : Unit => .int .i64 (erC r.1)) [gl, gd, gw, gm] (fun _ => LgB gl gd fr room (if r.1 then h' else h) (if r.1 then .slice b n cap else s) (!r.1) :: DskL gd gw gm r.2) (fun _ => True) w) := by
  subst hr
  unfold wrAll wrAll Dk.sy
  cases hp0 : D.pgone with
  | true => exact become_0 gl gd gw gm fr room h h' s D nd hok b n cap hn9 hser h1 h2 p hp hfit hp0 w hL0
  | false =>
    rw [if_neg (by simp)]
    dsimp only
    cases hp1 : (D.lit.put (fr + p) (secH h')).pgone with
    | true => exact become_1 gl gd gw gm fr room h h' s D nd hok b n cap hn9 hser h1 h2 p hp hfit hp0 hp1 w hL0
    | false => exact become_2 gl gd gw gm fr room h h' s D nd hok b n cap hn9 hser h1 h2 p hp hfit hp0 hp1 w hL0
end Go.Proofs.YtgmghkakiocmjaaGreatDoor
namespace Go.Proofs.YtgmghkakiocmjaaGreatDoor
open Go Go.RowKit
set_option linter.unusedVariables false
set_option linter.unusedSimpArgs false
theorem wrAll_OK {nd : Nat} : ∀ (l : List (Nat × (Nat → Int))) (D : Dk), (∀ e ∈ l, e.1 < nd) → D.OK nd → (wrAll l D).2.OK nd
  | [], D, _, h => by
    unfold wrAll Dk.sy
    split
    · exact h.dead
    · rename_i hp
      exact (h.lit (by simpa using hp)).still
  | e :: l, D, hl, h => by
    unfold wrAll
    split
    · exact h.dead
    · rename_i hp
      exact wrAll_OK l _ (fun e' he => hl e' (List.mem_cons_of_mem _ he)) ((h.lit (by simpa using hp)).put e.1 (hl e (List.mem_cons_self ..)) e.2)
theorem rmW_lt {fr : Nat} {xs : List Int} : ∀ (k q : Nat), ∀ e ∈ rmW fr xs k q, fr + (2 + q) ≤ e.1 ∧ e.1 < fr + (2 + q + k)
  | 0, _, e, h => by simp [rmW] at h
  | k + 1, q, e, h => by
    simp only [rmW, List.mem_cons] at h
    rcases h with rfl | h
    · dsimp only; omega
    · have := rmW_lt k (q + 1) e h; omega
abbrev LogL (gl gd gw gm fr room : Nat) (h : Hd) (b : Option Addr) (cap : Nat) (xs : List Int) (D : Dk) : List Chunk := .sl b cap 5 1 ((xs).map (Value.int .u8)) :: LgB gl gd fr room h (.slice b xs.length cap) false :: DskL gd gw gm D
theorem become_y (gl gd gw gm fr room : Nat) (h h' : Hd) (s : Value) (D : Dk) (nd : Nat) (hok : D.OK nd) (b : Option Addr) (n cap : Nat) (hn9 : n ≤ 2000000) (hser : 0 ≤ h.ser ∧ h.ser < 4611686018427387904) (h1 : h'.ser = h.ser + 1) (h2 : h'.cnt = n) (p : Nat) (hp : (p : Int) = h'.ser % 2) (hfit : fr + 2 ≤ nd) (r : Bool × Dk) (hr : r = wrAll [(fr + p, secH h')] D) (ht : r.1 = true) (w : World) (hL0 : Has (LgB gl gd fr room h s false :: DskL gd gw gm D) w) :
    CA Tryz.prog 52 [.pointer (some ⟨gl, 0, none⟩), .slice b n cap, .agg (noteE h'.nt).toArray] w (Ret (fun _ : Unit => .int .i64 0) [gl, gd, gw, gm] (fun _ => LgB gl gd fr room h' (.slice b n cap) false :: DskL gd gw gm r.2) (fun _ => True) w) := by
  have h9 := become_c gl gd gw gm fr room h h' s D nd hok b n cap hn9 hser h1 h2 p hp hfit r hr w hL0
  rw [ht] at h9
  exact h9
theorem become_n (gl gd gw gm fr room : Nat) (h h' : Hd) (s : Value) (D : Dk) (nd : Nat) (hok : D.OK nd) (b : Option Addr) (n cap : Nat) (hn9 : n ≤ 2000000) (hser : 0 ≤ h.ser ∧ h.ser < 4611686018427387904) (h1 : h'.ser = h.ser + 1) (h2 : h'.cnt = n) (p : Nat) (hp : (p : Int) = h'.ser % 2) (hfit : fr + 2 ≤ nd) (r : Bool × Dk) (hr : r = wrAll [(fr + p, secH h')] D) (ht : r.1 = false) (w : World) (hL0 : Has (LgB gl gd fr room h s false :: DskL gd gw gm D) w) :
    CA Tryz.prog 52 [.pointer (some ⟨gl, 0, none⟩), .slice b n cap, .agg (noteE h'.nt).toArray] w (Ret (fun _ : Unit => .int .i64 5) [gl, gd, gw, gm] (fun _ => LgB gl gd fr room h s true :: DskL gd gw gm r.2) (fun _ => True) w) := by
  have h9 := become_c gl gd gw gm fr room h h' s D nd hok b n cap hn9 hser h1 h2 p hp hfit r hr w hL0
  rw [ht] at h9
  exact h9
theorem erC_f : erC false = 5 := rfl
theorem erC_t : erC true = 0 := rfl
theorem has_app {A L : List Chunk} {w : World} (hL : Has L w) (hA : Has A w) (hap : ∀ g ∈ feet A, g ∉ feet L) : Has (L ++ A) w :=
  ⟨fun c hc => (List.mem_append.1 hc).elim (hL.ok c) (hA.ok c), by
    rw [feet_append]
    exact List.nodup_append.2 ⟨hL.apart, hA.apart, fun a1 h1 b1 h2 e => hap b1 h2 (e ▸ h1)⟩⟩
set_option maxRecDepth 100000 in
set_option maxHeartbeats 4000000 in
theorem append_0y {w : World} (gl gd gw gm fr room : Nat) (h h' : Hd) (b0 : Option Addr) (cap0 : Nat) (bs : List Int) (D : Dk) (nd : Nat) (hok : D.OK nd) (ho : OS (feet (LogL gl gd gw gm fr room h b0 cap0 bs D)) w.heap.size b0 cap0 bs.length) (hlr : bs.length ≤ room) (hroom : room ≤ 1100000) (hfit : fr + 2 + (room + 63) / 64 ≤ nd) (hser : 0 ≤ h.ser ∧ h.ser < 4611686018427387904) (p : Nat) (hp : (p : Int) = h'.ser % 2) (h1 : h'.ser = h.ser + 1) (h2 : h'.cnt = bs.length) (a : Option Addr) (cap : Nat) (r : Bool × Dk) (hre : r = wrAll [(fr + p, secH h')] D) (hrt : r.1 = true) (hL0 : Has (LogL gl gd gw gm fr room h b0 cap0 bs D) w) :
    CA Tryz.prog 29 [.pointer (some ⟨gl, 0, none⟩), .slice a 0 cap, .agg (noteE h'.nt).toArray] w (Ret (fun _ : Option Addr × Nat => .int .i64 0) (feet (LogL gl gd gw gm fr room h b0 cap0 bs D)) (fun z => LogL gl gd gw gm fr room h' z.1 z.2 bs r.2) (fun z => OS (feet (LogL gl gd gw gm fr room h b0 cap0 bs D)) w.heap.size z.1 z.2 bs.length) w) := by
  have hnd := hok.n9
  refine enter (L := (LogL gl gd gw gm fr room h b0 cap0 bs D)) (X := (feet (LogL gl gd gw gm fr room h b0 cap0 bs D))) Tryz.func29 rfl Tryz.ntmps29 rfl rfl hL0 ?_
  repeat (first | refine c_seq ?_ | (refine c_region (id := 0) ?_; refine se ?_; refine eb ?_; refine sq qa ?_; refine l_nil ?_) | (refine c_region (id := 1) ?_; refine sq qm ?_; refine se ?_; refine ecp rfl rfl (fun w hC hm hL => by exact ready_y gl gd fr room h (.slice b0 bs.length cap0) hser w (hL.sub (by (repeat (first | exact List.nil_sublist _ | exact List.Sublist.slnil | apply List.Sublist.cons_cons | exact List.Sublist.refl _ | apply List.Sublist.cons))))) ?_; intro m' hm'; refine sq qa ?_; refine l_nil ?_) | (refine c_region (id := 2) ?_; refine sq qm ?_; refine sq (by first | exact dneqt | exact dneqf) ?_; refine l_nil ?_) | (refine c_region (id := 4) ?_; refine sq qm ?_; refine sq qls ?_; refine sq qm ?_; refine se ?_; refine ecp rfl rfl (fun w hC hm hL => by exact room_c gl gd fr room h b0 bs.length cap0 false ⟨hlr, by omega⟩ w (hL.sub (by (repeat (first | exact List.nil_sublist _ | exact List.Sublist.slnil | apply List.Sublist.cons_cons | exact List.Sublist.refl _ | apply List.Sublist.cons))))) ?_; intro m' hm'; refine sq (by first | exact dgtrt | exact dgtrf) ?_; refine l_nil ?_) | (refine c_region (id := 6) ?_; refine sq qm ?_; refine sq qls ?_; refine sq (by first | exact deqlt | exact deqlf) ?_; refine l_nil ?_) | refine n_then ?_ | refine c_block ?_ | refine c_skip ?_ | refine n_block ?_ | refine c_exit ?_ | refine n_then_exit ?_ | refine n_block_eq ?_ | refine n_block_ne rfl ?_ | refine c_ret ?_ | refine n_then_ret ?_ | refine n_block_ret ?_ | refine c_cond_t rfl ?_ | refine c_cond_f rfl ?_ | refine r_succ ?_ )
  repeat (first | refine c_seq ?_ | (refine x_region (id := 7) (some 6) [(0, .n), (1, .n), (2, .n), (3, .n), (4, .q), (5, .q), (6, .b), (7, .n)] _ mixed (by kernel_rfl) (List.Sublist.refl _) ?_; refine xn rfl qm ?_; refine xn rfl qm ?_; refine xn rfl qn ?_; refine xn rfl qf ?_; refine xq rfl ql ?_; refine xq rfl (by exact qlb (hl := by rfl)) ?_; refine x_b rfl ?_; refine e_callX (LgB gl gd fr room h (.slice b0 bs.length cap0) false :: DskL gd gw gm D) _ rfl rfl (by kernel_rfl) rfl (by (repeat (first | exact Sp.nil | (apply Sp.cons; focus (repeat (first | exact Rm.here | apply Rm.there)))))) (fun w hC hm hA hL hap => by exact become_y gl gd gw gm fr room h h' (.slice b0 bs.length cap0) D nd hok b0 bs.length cap0 (by omega) hser h1 h2 p hp (by omega) r hre hrt w hA) (by intro g hg; exact .inl (by simp [feet, Chunk.foot] at hg ⊢; rcases hg with h | h | h | h <;> simp [h])) (fun _ => rfl) ?_; intro _ m5 _ _ hm5; refine x_k (List.nil_sublist _) ?_; refine xn rfl qa ?_; refine x_nil ?_) | refine n_then ?_ | refine c_block ?_ | refine c_skip ?_ | refine n_block ?_ | refine c_exit ?_ | refine n_then_exit ?_ | refine n_block_eq ?_ | refine n_block_ne rfl ?_ | refine c_ret ?_ | refine n_then_ret ?_ | refine n_block_ret ?_ | refine c_cond_t rfl ?_ | refine c_cond_f rfl ?_ | refine r_succ ?_ )
  refine fgs (A := LogL gl gd gw gm fr room h' b0 cap0 bs r.2) (by (repeat (first | exact Sp.nil | (apply Sp.cons; focus (repeat (first | exact Rm.here | apply Rm.there)))))) ?_
  (first | apply r_ret (b0, cap0) | apply r_end (b0, cap0)); exact rfl; exact rfl; exact (.tmp rfl .nil); exact rfl; exact (List.Sublist.refl _); exact (fun g hg => .inl hg); exact ho
set_option maxRecDepth 100000 in
set_option maxHeartbeats 4000000 in
theorem append_0n {w : World} (gl gd gw gm fr room : Nat) (h h' : Hd) (b0 : Option Addr) (cap0 : Nat) (bs : List Int) (D : Dk) (nd : Nat) (hok : D.OK nd) (ho : OS (feet (LogL gl gd gw gm fr room h b0 cap0 bs D)) w.heap.size b0 cap0 bs.length) (hlr : bs.length ≤ room) (hroom : room ≤ 1100000) (hfit : fr + 2 + (room + 63) / 64 ≤ nd) (hser : 0 ≤ h.ser ∧ h.ser < 4611686018427387904) (p : Nat) (hp : (p : Int) = h'.ser % 2) (h1 : h'.ser = h.ser + 1) (h2 : h'.cnt = bs.length) (a : Option Addr) (cap : Nat) (r : Bool × Dk) (hre : r = wrAll [(fr + p, secH h')] D) (hrt : r.1 = false) (hL0 : Has (LogL gl gd gw gm fr room h b0 cap0 bs D) w) :
    CA Tryz.prog 29 [.pointer (some ⟨gl, 0, none⟩), .slice a 0 cap, .agg (noteE h'.nt).toArray] w (Ret (fun _ : Unit => .int .i64 5) (feet (LogL gl gd gw gm fr room h b0 cap0 bs D)) (fun _ => LgB gl gd fr room h (.slice b0 bs.length cap0) true :: DskL gd gw gm r.2) (fun _ => True) w) := by
  have hnd := hok.n9
  refine enter (L := (LogL gl gd gw gm fr room h b0 cap0 bs D)) (X := (feet (LogL gl gd gw gm fr room h b0 cap0 bs D))) Tryz.func29 rfl Tryz.ntmps29 rfl rfl hL0 ?_
  repeat (first | refine c_seq ?_ | (refine c_region (id := 0) ?_; refine se ?_; refine eb ?_; refine sq qa ?_; refine l_nil ?_) | (refine c_region (id := 1) ?_; refine sq qm ?_; refine se ?_; refine ecp rfl rfl (fun w hC hm hL => by exact ready_y gl gd fr room h (.slice b0 bs.length cap0) hser w (hL.sub (by (repeat (first | exact List.nil_sublist _ | exact List.Sublist.slnil | apply List.Sublist.cons_cons | exact List.Sublist.refl _ | apply List.Sublist.cons))))) ?_; intro m' hm'; refine sq qa ?_; refine l_nil ?_) | (refine c_region (id := 2) ?_; refine sq qm ?_; refine sq (by first | exact dneqt | exact dneqf) ?_; refine l_nil ?_) | (refine c_region (id := 4) ?_; refine sq qm ?_; refine sq qls ?_; refine sq qm ?_; refine se ?_; refine ecp rfl rfl (fun w hC hm hL => by exact room_c gl gd fr room h b0 bs.length cap0 false ⟨hlr, by omega⟩ w (hL.sub (by (repeat (first | exact List.nil_sublist _ | exact List.Sublist.slnil | apply List.Sublist.cons_cons | exact List.Sublist.refl _ | apply List.Sublist.cons))))) ?_; intro m' hm'; refine sq (by first | exact dgtrt | exact dgtrf) ?_; refine l_nil ?_) | (refine c_region (id := 6) ?_; refine sq qm ?_; refine sq qls ?_; refine sq (by first | exact deqlt | exact deqlf) ?_; refine l_nil ?_) | refine n_then ?_ | refine c_block ?_ | refine c_skip ?_ | refine n_block ?_ | refine c_exit ?_ | refine n_then_exit ?_ | refine n_block_eq ?_ | refine n_block_ne rfl ?_ | refine c_ret ?_ | refine n_then_ret ?_ | refine n_block_ret ?_ | refine c_cond_t rfl ?_ | refine c_cond_f rfl ?_ | refine r_succ ?_ )
  repeat (first | refine c_seq ?_ | (refine x_region (id := 7) (some 6) [(0, .n), (1, .n), (2, .n), (3, .n), (4, .q), (5, .q), (6, .b), (7, .n)] _ mixed (by kernel_rfl) (List.Sublist.refl _) ?_; refine xn rfl qm ?_; refine xn rfl qm ?_; refine xn rfl qn ?_; refine xn rfl qf ?_; refine xq rfl ql ?_; refine xq rfl (by exact qlb (hl := by rfl)) ?_; refine x_b rfl ?_; refine e_callX (LgB gl gd fr room h (.slice b0 bs.length cap0) false :: DskL gd gw gm D) _ rfl rfl (by kernel_rfl) rfl (by (repeat (first | exact Sp.nil | (apply Sp.cons; focus (repeat (first | exact Rm.here | apply Rm.there)))))) (fun w hC hm hA hL hap => by exact become_n gl gd gw gm fr room h h' (.slice b0 bs.length cap0) D nd hok b0 bs.length cap0 (by omega) hser h1 h2 p hp (by omega) r hre hrt w hA) (by intro g hg; exact .inl (by simp [feet, Chunk.foot] at hg ⊢; rcases hg with h | h | h | h <;> simp [h])) (fun _ => rfl) ?_; intro _ m5 _ _ hm5; refine x_k (List.nil_sublist _) ?_; refine xn rfl qa ?_; refine x_nil ?_) | refine n_then ?_ | refine c_block ?_ | refine c_skip ?_ | refine n_block ?_ | refine c_exit ?_ | refine n_then_exit ?_ | refine n_block_eq ?_ | refine n_block_ne rfl ?_ | refine c_ret ?_ | refine n_then_ret ?_ | refine n_block_ret ?_ | refine c_cond_t rfl ?_ | refine c_cond_f rfl ?_ | refine r_succ ?_ )
  refine fgs (A := (LgB gl gd fr room h (.slice b0 bs.length cap0) true :: DskL gd gw gm r.2)) (by (repeat (first | exact Sp.nil | (apply Sp.cons; focus (repeat (first | exact Rm.here | apply Rm.there)))))) ?_
  (first | apply r_ret () | apply r_end ()); exact rfl; exact rfl; exact (.tmp rfl .nil); exact rfl; exact (List.Sublist.refl _); exact (by intro g hg; exact .inl (by simp [feet, Chunk.foot] at hg ⊢; rcases hg with h | h | h | h <;> simp [h])); exact trivial
set_option maxRecDepth 100000 in
set_option maxHeartbeats 4000000 in
theorem append_1 {w : World} (gl gd gw gm fr room : Nat) (h h' : Hd) (b0 : Option Addr) (cap0 : Nat) (bs : List Int) (D : Dk) (nd : Nat) (hok : D.OK nd) (ho : OS (feet (LogL gl gd gw gm fr room h b0 cap0 bs D)) w.heap.size b0 cap0 bs.length) (hlr : bs.length ≤ room) (hroom : room ≤ 1100000) (hfit : fr + 2 + (room + 63) / 64 ≤ nd) (hser : 0 ≤ h.ser ∧ h.ser < 4611686018427387904) (p : Nat) (hp : (p : Int) = h'.ser % 2) (h1 : h'.ser = h.ser + 1) (a : Option Addr) (len cap : Nat) (ys : List Int) (h2 : h'.cnt = (bs ++ ys).length) (hyl : ys.length = len) (hy0 : 0 < len) (hfr : bs.length + len ≤ room) (hys : SlE (Value.int .u8) w a ys) (hyx : ∀ g o, a = some ⟨g, o, none⟩ → g ∉ (feet (LogL gl gd gw gm fr room h b0 cap0 bs D))) (r1 : Bool × Dk) (hr1e : r1 = wrAll (rmW fr (bs ++ ys) (((bs ++ ys).length + 63) / 64 - bs.length / 64) (bs.length / 64)) D) (hr1 : r1.1 = false) (hL0 : Has (LogL gl gd gw gm fr room h b0 cap0 bs D) w) :
    CA Tryz.prog 29 [.pointer (some ⟨gl, 0, none⟩), .slice a len cap, .agg (noteE h'.nt).toArray] w (Ret (fun _ : Unit => .int .i64 5) (feet (LogL gl gd gw gm fr room h b0 cap0 bs D)) (fun _ => LgB gl gd fr room h (.slice b0 bs.length cap0) true :: DskL gd gw gm r1.2) (fun _ => True) w) := by
  have hnd := hok.n9
  have hbl : bs.length + len = (bs ++ ys).length := by simp [hyl]
  have hvw : ∀ (L : List Chunk), Vw (feet (LogL gl gd gw gm fr room h b0 cap0 bs D)) w L a (ys.map (Value.int .u8)) := fun L => by
    obtain ⟨g, o, rfl, hO⟩ := hys.get (i := 0) (by omega)
    exact .inr ⟨_, rfl, RdN.old hO (hyx g o rfl)⟩
  replace hvw := fun L => hvw L
  have hok1 : ∀ r1, r1 = wrAll (rmW fr (bs ++ ys) (((bs ++ ys).length + 63) / 64 - bs.length / 64) (bs.length / 64)) D → r1.2.OK nd := fun r1 e => by
    rw [e]
    exact wrAll_OK _ _ (fun e he => by have := rmW_lt _ _ e he; omega) hok
  refine enter (L := (LogL gl gd gw gm fr room h b0 cap0 bs D)) (X := (feet (LogL gl gd gw gm fr room h b0 cap0 bs D))) Tryz.func29 rfl Tryz.ntmps29 rfl rfl hL0 ?_
  repeat (first | refine c_seq ?_ | (refine c_region (id := 0) ?_; refine se ?_; refine eb ?_; refine sq qa ?_; refine l_nil ?_) | (refine c_region (id := 1) ?_; refine sq qm ?_; refine se ?_; refine ecp rfl rfl (fun w hC hm hL => by exact ready_y gl gd fr room h (.slice b0 bs.length cap0) hser w (hL.sub (by (repeat (first | exact List.nil_sublist _ | exact List.Sublist.slnil | apply List.Sublist.cons_cons | exact List.Sublist.refl _ | apply List.Sublist.cons))))) ?_; intro m' hm'; refine sq qa ?_; refine l_nil ?_) | (refine c_region (id := 2) ?_; refine sq qm ?_; refine sq (by first | exact dneqt | exact dneqf) ?_; refine l_nil ?_) | (refine c_region (id := 4) ?_; refine sq qm ?_; refine sq qls ?_; refine sq qm ?_; refine se ?_; refine ecp rfl rfl (fun w hC hm hL => by exact room_c gl gd fr room h b0 bs.length cap0 false ⟨hlr, by omega⟩ w (hL.sub (by (repeat (first | exact List.nil_sublist _ | exact List.Sublist.slnil | apply List.Sublist.cons_cons | exact List.Sublist.refl _ | apply List.Sublist.cons))))) ?_; intro m' hm'; refine sq (by first | exact dgtrt | exact dgtrf) ?_; refine l_nil ?_) | (refine c_region (id := 6) ?_; refine sq qm ?_; refine sq qls ?_; refine sq (by first | exact deqlt | exact deqlf) ?_; refine l_nil ?_) | (refine c_region (id := 8) ?_; refine sq qm ?_; refine sq qn ?_; refine sq qf ?_; refine sq ql ?_; refine sq qm ?_; refine se ?_; refine e_appE (Value.int .u8) bs ys rfl rfl rfl (by (repeat (first | exact Rm.here | apply Rm.there))) (hvw _) rfl hyl ho (allOne_u8L _) (by omega) (by omega) ?_; intro b2 cap2 m2 ho2 hm2; refine sq qa ?_; refine l_nil ?_) | refine n_then ?_ | refine c_block ?_ | refine c_skip ?_ | refine n_block ?_ | refine c_exit ?_ | refine n_then_exit ?_ | refine n_block_eq ?_ | refine n_block_ne rfl ?_ | refine c_ret ?_ | refine n_then_ret ?_ | refine n_block_ret ?_ | refine c_cond_t rfl ?_ | refine c_cond_f rfl ?_ | refine r_succ ?_ )
  rw [hbl] at ho2 ⊢
  repeat (first | refine c_seq ?_ | (refine c_region (id := 9) ?_; refine sq qm ?_; refine sq qm ?_; refine se ?_; refine e_callX (DskL gd gw gm D) _ rfl rfl (by kernel_rfl) rfl (by (repeat (first | exact Sp.nil | (apply Sp.cons; focus (repeat (first | exact Rm.here | apply Rm.there)))))) (fun w hC hm hA hL hap => by have h9 := wroom_c gl gd gw gm fr room h b0 bs.length cap0 false D nd hok b2 (bs ++ ys).length cap2 (bs ++ ys) rfl ho2.le (by omega) (by omega) (by omega) w (SlE.own hL (by (repeat (first | exact List.Mem.head _ | apply List.Mem.tail))) ho2) (apart_sl (by (repeat (first | exact List.Mem.head _ | apply List.Mem.tail))) hap) ((has_app hL hA hap).sub (by (repeat (first | exact List.nil_sublist _ | exact List.Sublist.slnil | apply List.Sublist.cons_cons | exact List.Sublist.refl _ | apply List.Sublist.cons)))); rw [← hr1e, hr1, erC_f] at h9; exact h9) (by intro g hg; exact .inl (by simp [feet, Chunk.foot] at hg ⊢; rcases hg with h | h | h <;> simp [h])) (fun _ => rfl) ?_; intro _ m5 _ _ hm5; refine sq qa ?_; refine l_nil ?_) | (refine c_region (id := 10) ?_; refine sq qm ?_; refine sq (by first | exact dneqt | exact dneqf) ?_; refine l_nil ?_) | (refine c_region (id := 11) ?_; refine sq qm ?_; refine se ?_; refine e_call_upd rfl rfl (by kernel_rfl) rfl (fun w hC hm hL => by exact end_c gl gd fr room h (.slice b0 bs.length cap0) false w (hL.sub (by (repeat (first | exact List.nil_sublist _ | exact List.Sublist.slnil | apply List.Sublist.cons_cons | exact List.Sublist.refl _ | apply List.Sublist.cons))))) (by (repeat (first | exact Pl.here | apply Pl.there))) (.inl (by simp [feet, Chunk.foot])) ?_; intro m' hm'; refine sq qa ?_; refine l_nil ?_) | refine n_then ?_ | refine c_block ?_ | refine c_skip ?_ | refine n_block ?_ | refine c_exit ?_ | refine n_then_exit ?_ | refine n_block_eq ?_ | refine n_block_ne rfl ?_ | refine c_ret ?_ | refine n_then_ret ?_ | refine n_block_ret ?_ | refine c_cond_t rfl ?_ | refine c_cond_f rfl ?_ | refine r_succ ?_ )
  refine fgs (A := (LgB gl gd fr room h (.slice b0 bs.length cap0) true :: DskL gd gw gm r1.2)) (by (repeat (first | exact Sp.nil | (apply Sp.cons; focus (repeat (first | exact Rm.here | apply Rm.there)))))) ?_
  (first | apply r_ret () | apply r_end ()); exact rfl; exact rfl; exact (.tmp rfl .nil); exact rfl; exact (List.Sublist.refl _); exact (by intro g hg; exact .inl (by simp [feet, Chunk.foot] at hg ⊢; rcases hg with h | h | h | h <;> simp [h])); exact trivial
set_option maxRecDepth 100000 in
set_option maxHeartbeats 4000000 in
theorem append_2n {w : World} (gl gd gw gm fr room : Nat) (h h' : Hd) (b0 : Option Addr) (cap0 : Nat) (bs : List Int) (D : Dk) (nd : Nat) (hok : D.OK nd) (ho : OS (feet (LogL gl gd gw gm fr room h b0 cap0 bs D)) w.heap.size b0 cap0 bs.length) (hlr : bs.length ≤ room) (hroom : room ≤ 1100000) (hfit : fr + 2 + (room + 63) / 64 ≤ nd) (hser : 0 ≤ h.ser ∧ h.ser < 4611686018427387904) (p : Nat) (hp : (p : Int) = h'.ser % 2) (h1 : h'.ser = h.ser + 1) (a : Option Addr) (len cap : Nat) (ys : List Int) (h2 : h'.cnt = (bs ++ ys).length) (hyl : ys.length = len) (hy0 : 0 < len) (hfr : bs.length + len ≤ room) (hys : SlE (Value.int .u8) w a ys) (hyx : ∀ g o, a = some ⟨g, o, none⟩ → g ∉ (feet (LogL gl gd gw gm fr room h b0 cap0 bs D))) (r1 : Bool × Dk) (hr1e : r1 = wrAll (rmW fr (bs ++ ys) (((bs ++ ys).length + 63) / 64 - bs.length / 64) (bs.length / 64)) D) (hr1 : r1.1 = true) (r2 : Bool × Dk) (hre : r2 = wrAll [(fr + p, secH h')] r1.2) (hrt : r2.1 = false) (hL0 : Has (LogL gl gd gw gm fr room h b0 cap0 bs D) w) :
    CA Tryz.prog 29 [.pointer (some ⟨gl, 0, none⟩), .slice a len cap, .agg (noteE h'.nt).toArray] w (Ret (fun _ : Unit => .int .i64 5) (feet (LogL gl gd gw gm fr room h b0 cap0 bs D)) (fun _ => LgB gl gd fr room h (.slice b0 bs.length cap0) true :: DskL gd gw gm r2.2) (fun _ => True) w) := by
  have hnd := hok.n9
  have hbl : bs.length + len = (bs ++ ys).length := by simp [hyl]
  have hvw : ∀ (L : List Chunk), Vw (feet (LogL gl gd gw gm fr room h b0 cap0 bs D)) w L a (ys.map (Value.int .u8)) := fun L => by
    obtain ⟨g, o, rfl, hO⟩ := hys.get (i := 0) (by omega)
    exact .inr ⟨_, rfl, RdN.old hO (hyx g o rfl)⟩
  replace hvw := fun L => hvw L
  have hok1 : ∀ r1, r1 = wrAll (rmW fr (bs ++ ys) (((bs ++ ys).length + 63) / 64 - bs.length / 64) (bs.length / 64)) D → r1.2.OK nd := fun r1 e => by
    rw [e]
    exact wrAll_OK _ _ (fun e he => by have := rmW_lt _ _ e he; omega) hok
  refine enter (L := (LogL gl gd gw gm fr room h b0 cap0 bs D)) (X := (feet (LogL gl gd gw gm fr room h b0 cap0 bs D))) Tryz.func29 rfl Tryz.ntmps29 rfl rfl hL0 ?_
  repeat (first | refine c_seq ?_ | (refine c_region (id := 0) ?_; refine se ?_; refine eb ?_; refine sq qa ?_; refine l_nil ?_) | (refine c_region (id := 1) ?_; refine sq qm ?_; refine se ?_; refine ecp rfl rfl (fun w hC hm hL => by exact ready_y gl gd fr room h (.slice b0 bs.length cap0) hser w (hL.sub (by (repeat (first | exact List.nil_sublist _ | exact List.Sublist.slnil | apply List.Sublist.cons_cons | exact List.Sublist.refl _ | apply List.Sublist.cons))))) ?_; intro m' hm'; refine sq qa ?_; refine l_nil ?_) | (refine c_region (id := 2) ?_; refine sq qm ?_; refine sq (by first | exact dneqt | exact dneqf) ?_; refine l_nil ?_) | (refine c_region (id := 4) ?_; refine sq qm ?_; refine sq qls ?_; refine sq qm ?_; refine se ?_; refine ecp rfl rfl (fun w hC hm hL => by exact room_c gl gd fr room h b0 bs.length cap0 false ⟨hlr, by omega⟩ w (hL.sub (by (repeat (first | exact List.nil_sublist _ | exact List.Sublist.slnil | apply List.Sublist.cons_cons | exact List.Sublist.refl _ | apply List.Sublist.cons))))) ?_; intro m' hm'; refine sq (by first | exact dgtrt | exact dgtrf) ?_; refine l_nil ?_) | (refine c_region (id := 6) ?_; refine sq qm ?_; refine sq qls ?_; refine sq (by first | exact deqlt | exact deqlf) ?_; refine l_nil ?_) | (refine c_region (id := 8) ?_; refine sq qm ?_; refine sq qn ?_; refine sq qf ?_; refine sq ql ?_; refine sq qm ?_; refine se ?_; refine e_appE (Value.int .u8) bs ys rfl rfl rfl (by (repeat (first | exact Rm.here | apply Rm.there))) (hvw _) rfl hyl ho (allOne_u8L _) (by omega) (by omega) ?_; intro b2 cap2 m2 ho2 hm2; refine sq qa ?_; refine l_nil ?_) | refine n_then ?_ | refine c_block ?_ | refine c_skip ?_ | refine n_block ?_ | refine c_exit ?_ | refine n_then_exit ?_ | refine n_block_eq ?_ | refine n_block_ne rfl ?_ | refine c_ret ?_ | refine n_then_ret ?_ | refine n_block_ret ?_ | refine c_cond_t rfl ?_ | refine c_cond_f rfl ?_ | refine r_succ ?_ )
  rw [hbl] at ho2 ⊢
  repeat (first | refine c_seq ?_ | (refine c_region (id := 9) ?_; refine sq qm ?_; refine sq qm ?_; refine se ?_; refine e_callX (DskL gd gw gm D) _ rfl rfl (by kernel_rfl) rfl (by (repeat (first | exact Sp.nil | (apply Sp.cons; focus (repeat (first | exact Rm.here | apply Rm.there)))))) (fun w hC hm hA hL hap => by have h9 := wroom_c gl gd gw gm fr room h b0 bs.length cap0 false D nd hok b2 (bs ++ ys).length cap2 (bs ++ ys) rfl ho2.le (by omega) (by omega) (by omega) w (SlE.own hL (by (repeat (first | exact List.Mem.head _ | apply List.Mem.tail))) ho2) (apart_sl (by (repeat (first | exact List.Mem.head _ | apply List.Mem.tail))) hap) ((has_app hL hA hap).sub (by (repeat (first | exact List.nil_sublist _ | exact List.Sublist.slnil | apply List.Sublist.cons_cons | exact List.Sublist.refl _ | apply List.Sublist.cons)))); rw [← hr1e, hr1, erC_t] at h9; exact h9) (by intro g hg; exact .inl (by simp [feet, Chunk.foot] at hg ⊢; rcases hg with h | h | h <;> simp [h])) (fun _ => rfl) ?_; intro _ m5 _ _ hm5; refine sq qa ?_; refine l_nil ?_) | (refine c_region (id := 10) ?_; refine sq qm ?_; refine sq (by first | exact dneqt | exact dneqf) ?_; refine l_nil ?_) | (refine c_region (id := 12) ?_; refine sq qm ?_; refine sq qm ?_; refine sq (by exact qlb (hl := by rfl)) ?_; refine se ?_; refine e_callX (LgB gl gd fr room h (.slice b0 bs.length cap0) false :: DskL gd gw gm r1.2) _ rfl rfl (by kernel_rfl) rfl (by (repeat (first | exact Sp.nil | (apply Sp.cons; focus (repeat (first | exact Rm.here | apply Rm.there)))))) (fun w hC hm hA hL hap => by exact become_n gl gd gw gm fr room h h' (.slice b0 bs.length cap0) r1.2 nd (hok1 r1 hr1e) b2 (bs ++ ys).length cap2 (by omega) hser h1 h2 p hp (by omega) r2 hre hrt w hA) (by intro g hg; exact .inl (by simp [feet, Chunk.foot] at hg ⊢; rcases hg with h | h | h | h <;> simp [h])) (fun _ => rfl) ?_; intro _ m7 _ _ hm7; refine sq qa ?_; refine l_nil ?_) | refine n_then ?_ | refine c_block ?_ | refine c_skip ?_ | refine n_block ?_ | refine c_exit ?_ | refine n_then_exit ?_ | refine n_block_eq ?_ | refine n_block_ne rfl ?_ | refine c_ret ?_ | refine n_then_ret ?_ | refine n_block_ret ?_ | refine c_cond_t rfl ?_ | refine c_cond_f rfl ?_ | refine r_succ ?_ )
  refine fgs (A := (LgB gl gd fr room h (.slice b0 bs.length cap0) true :: DskL gd gw gm r2.2)) (by (repeat (first | exact Sp.nil | (apply Sp.cons; focus (repeat (first | exact Rm.here | apply Rm.there)))))) ?_
  (first | apply r_ret () | apply r_end ()); exact rfl; exact rfl; exact (.tmp rfl .nil); exact rfl; exact (List.Sublist.refl _); exact (by intro g hg; exact .inl (by simp [feet, Chunk.foot] at hg ⊢; rcases hg with h | h | h | h <;> simp [h])); exact trivial
set_option maxRecDepth 100000 in
set_option maxHeartbeats 4000000 in
theorem append_2y {w : World} (gl gd gw gm fr room : Nat) (h h' : Hd) (b0 : Option Addr) (cap0 : Nat) (bs : List Int) (D : Dk) (nd : Nat) (hok : D.OK nd) (ho : OS (feet (LogL gl gd gw gm fr room h b0 cap0 bs D)) w.heap.size b0 cap0 bs.length) (hlr : bs.length ≤ room) (hroom : room ≤ 1100000) (hfit : fr + 2 + (room + 63) / 64 ≤ nd) (hser : 0 ≤ h.ser ∧ h.ser < 4611686018427387904) (p : Nat) (hp : (p : Int) = h'.ser % 2) (h1 : h'.ser = h.ser + 1) (a : Option Addr) (len cap : Nat) (ys : List Int) (h2 : h'.cnt = (bs ++ ys).length) (hyl : ys.length = len) (hy0 : 0 < len) (hfr : bs.length + len ≤ room) (hys : SlE (Value.int .u8) w a ys) (hyx : ∀ g o, a = some ⟨g, o, none⟩ → g ∉ (feet (LogL gl gd gw gm fr room h b0 cap0 bs D))) (r1 : Bool × Dk) (hr1e : r1 = wrAll (rmW fr (bs ++ ys) (((bs ++ ys).length + 63) / 64 - bs.length / 64) (bs.length / 64)) D) (hr1 : r1.1 = true) (r2 : Bool × Dk) (hre : r2 = wrAll [(fr + p, secH h')] r1.2) (hrt : r2.1 = true) (hL0 : Has (LogL gl gd gw gm fr room h b0 cap0 bs D) w) :
    CA Tryz.prog 29 [.pointer (some ⟨gl, 0, none⟩), .slice a len cap, .agg (noteE h'.nt).toArray] w (Ret (fun _ : Option Addr × Nat => .int .i64 0) (feet (LogL gl gd gw gm fr room h b0 cap0 bs D)) (fun z => LogL gl gd gw gm fr room h' z.1 z.2 (bs ++ ys) r2.2) (fun z => OS (feet (LogL gl gd gw gm fr room h b0 cap0 bs D)) w.heap.size z.1 z.2 (bs ++ ys).length) w) := by
  have hnd := hok.n9
  have hbl : bs.length + len = (bs ++ ys).length := by simp [hyl]
  have hvw : ∀ (L : List Chunk), Vw (feet (LogL gl gd gw gm fr room h b0 cap0 bs D)) w L a (ys.map (Value.int .u8)) := fun L => by
    obtain ⟨g, o, rfl, hO⟩ := hys.get (i := 0) (by omega)
    exact .inr ⟨_, rfl, RdN.old hO (hyx g o rfl)⟩
  replace hvw := fun L => hvw L
  have hok1 : ∀ r1, r1 = wrAll (rmW fr (bs ++ ys) (((bs ++ ys).length + 63) / 64 - bs.length / 64) (bs.length / 64)) D → r1.2.OK nd := fun r1 e => by
    rw [e]
    exact wrAll_OK _ _ (fun e he => by have := rmW_lt _ _ e he; omega) hok
  refine enter (L := (LogL gl gd gw gm fr room h b0 cap0 bs D)) (X := (feet (LogL gl gd gw gm fr room h b0 cap0 bs D))) Tryz.func29 rfl Tryz.ntmps29 rfl rfl hL0 ?_
  repeat (first | refine c_seq ?_ | (refine c_region (id := 0) ?_; refine se ?_; refine eb ?_; refine sq qa ?_; refine l_nil ?_) | (refine c_region (id := 1) ?_; refine sq qm ?_; refine se ?_; refine ecp rfl rfl (fun w hC hm hL => by exact ready_y gl gd fr room h (.slice b0 bs.length cap0) hser w (hL.sub (by (repeat (first | exact List.nil_sublist _ | exact List.Sublist.slnil | apply List.Sublist.cons_cons | exact List.Sublist.refl _ | apply List.Sublist.cons))))) ?_; intro m' hm'; refine sq qa ?_; refine l_nil ?_) | (refine c_region (id := 2) ?_; refine sq qm ?_; refine sq (by first | exact dneqt | exact dneqf) ?_; refine l_nil ?_) | (refine c_region (id := 4) ?_; refine sq qm ?_; refine sq qls ?_; refine sq qm ?_; refine se ?_; refine ecp rfl rfl (fun w hC hm hL => by exact room_c gl gd fr room h b0 bs.length cap0 false ⟨hlr, by omega⟩ w (hL.sub (by (repeat (first | exact List.nil_sublist _ | exact List.Sublist.slnil | apply List.Sublist.cons_cons | exact List.Sublist.refl _ | apply List.Sublist.cons))))) ?_; intro m' hm'; refine sq (by first | exact dgtrt | exact dgtrf) ?_; refine l_nil ?_) | (refine c_region (id := 6) ?_; refine sq qm ?_; refine sq qls ?_; refine sq (by first | exact deqlt | exact deqlf) ?_; refine l_nil ?_) | (refine c_region (id := 8) ?_; refine sq qm ?_; refine sq qn ?_; refine sq qf ?_; refine sq ql ?_; refine sq qm ?_; refine se ?_; refine e_appE (Value.int .u8) bs ys rfl rfl rfl (by (repeat (first | exact Rm.here | apply Rm.there))) (hvw _) rfl hyl ho (allOne_u8L _) (by omega) (by omega) ?_; intro b2 cap2 m2 ho2 hm2; refine sq qa ?_; refine l_nil ?_) | refine n_then ?_ | refine c_block ?_ | refine c_skip ?_ | refine n_block ?_ | refine c_exit ?_ | refine n_then_exit ?_ | refine n_block_eq ?_ | refine n_block_ne rfl ?_ | refine c_ret ?_ | refine n_then_ret ?_ | refine n_block_ret ?_ | refine c_cond_t rfl ?_ | refine c_cond_f rfl ?_ | refine r_succ ?_ )
  rw [hbl] at ho2 ⊢
  repeat (first | refine c_seq ?_ | (refine c_region (id := 9) ?_; refine sq qm ?_; refine sq qm ?_; refine se ?_; refine e_callX (DskL gd gw gm D) _ rfl rfl (by kernel_rfl) rfl (by (repeat (first | exact Sp.nil | (apply Sp.cons; focus (repeat (first | exact Rm.here | apply Rm.there)))))) (fun w hC hm hA hL hap => by have h9 := wroom_c gl gd gw gm fr room h b0 bs.length cap0 false D nd hok b2 (bs ++ ys).length cap2 (bs ++ ys) rfl ho2.le (by omega) (by omega) (by omega) w (SlE.own hL (by (repeat (first | exact List.Mem.head _ | apply List.Mem.tail))) ho2) (apart_sl (by (repeat (first | exact List.Mem.head _ | apply List.Mem.tail))) hap) ((has_app hL hA hap).sub (by (repeat (first | exact List.nil_sublist _ | exact List.Sublist.slnil | apply List.Sublist.cons_cons | exact List.Sublist.refl _ | apply List.Sublist.cons)))); rw [← hr1e, hr1, erC_t] at h9; exact h9) (by intro g hg; exact .inl (by simp [feet, Chunk.foot] at hg ⊢; rcases hg with h | h | h <;> simp [h])) (fun _ => rfl) ?_; intro _ m5 _ _ hm5; refine sq qa ?_; refine l_nil ?_) | (refine c_region (id := 10) ?_; refine sq qm ?_; refine sq (by first | exact dneqt | exact dneqf) ?_; refine l_nil ?_) | (refine c_region (id := 12) ?_; refine sq qm ?_; refine sq qm ?_; refine sq (by exact qlb (hl := by rfl)) ?_; refine se ?_; refine e_callX (LgB gl gd fr room h (.slice b0 bs.length cap0) false :: DskL gd gw gm r1.2) _ rfl rfl (by kernel_rfl) rfl (by (repeat (first | exact Sp.nil | (apply Sp.cons; focus (repeat (first | exact Rm.here | apply Rm.there)))))) (fun w hC hm hA hL hap => by exact become_y gl gd gw gm fr room h h' (.slice b0 bs.length cap0) r1.2 nd (hok1 r1 hr1e) b2 (bs ++ ys).length cap2 (by omega) hser h1 h2 p hp (by omega) r2 hre hrt w hA) (by intro g hg; exact .inl (by simp [feet, Chunk.foot] at hg ⊢; rcases hg with h | h | h | h <;> simp [h])) (fun _ => rfl) ?_; intro _ m7 _ _ hm7; refine sq qa ?_; refine l_nil ?_) | refine n_then ?_ | refine c_block ?_ | refine c_skip ?_ | refine n_block ?_ | refine c_exit ?_ | refine n_then_exit ?_ | refine n_block_eq ?_ | refine n_block_ne rfl ?_ | refine c_ret ?_ | refine n_then_ret ?_ | refine n_block_ret ?_ | refine c_cond_t rfl ?_ | refine c_cond_f rfl ?_ | refine r_succ ?_ )
  refine fgs (A := LogL gl gd gw gm fr room h' b2 cap2 (bs ++ ys) r2.2) (by (repeat (first | exact Sp.nil | (apply Sp.cons; focus (repeat (first | exact Rm.here | apply Rm.there)))))) ?_
  (first | apply r_ret (b2, cap2) | apply r_end (b2, cap2)); exact rfl; exact rfl; exact (.tmp rfl .nil); exact rfl; exact (List.Sublist.refl _); exact (new_sl ho2.newc (by intro g hg; exact .inl (by simp [feet, Chunk.foot] at hg ⊢; rcases hg with h | h | h | h <;> simp [h]))); exact ho2
end Go.Proofs.YtgmghkakiocmjaaGreatDoor
namespace Go.Proofs.YtgmghkakiocmjaaGreatDoor
open Go Go.RowKit
set_option linter.unusedVariables false
set_option linter.unusedSimpArgs false
def appR (fr p : Nat) (h' : Hd) (bs ys : List Int) (D : Dk) : Bool × Dk := if ys = [] then wrAll [(fr + p, secH h')] D else if (wrAll (rmW fr (bs ++ ys) (((bs ++ ys).length + 63) / 64 - bs.length / 64) (bs.length / 64)) D).1 then wrAll [(fr + p, secH h')] (wrAll (rmW fr (bs ++ ys) (((bs ++ ys).length + 63) / 64 - bs.length / 64) (bs.length / 64)) D).2 else wrAll (rmW fr (bs ++ ys) (((bs ++ ys).length + 63) / 64 - bs.length / 64) (bs.length / 64)) D
abbrev BK (b : Option Addr) (cap n : Nat) : Prop := n ≤ cap ∧ cap ≤ 9223372036854775807 ∧ ((b = none ∧ n = 0) ∨ ∃ g, b = some ⟨g, 0, none⟩)
theorem ca_phi {α : Type} {P : Program} {f : FuncId} {vs : List Value} {w : World} {V : α → Value} {X : List Nat} {N : α → List Chunk} {Φ Ψ : α → Prop} (h : CA P f vs w (Ret V X N Φ w)) (hm : ∀ z, Φ z → Ψ z) : CA P f vs w (Ret V X N Ψ w) :=
  ⟨h.h.mono fun e w' ⟨z, h1, h2, h3, h4, h5⟩ => ⟨z, h1, h2, h3, h4, hm z h5⟩⟩
theorem append_y {w : World} (gl gd gw gm fr room : Nat) (h h' : Hd) (b0 : Option Addr) (cap0 : Nat) (bs : List Int) (D : Dk) (nd : Nat) (hok : D.OK nd) (ho : OS (feet (LogL gl gd gw gm fr room h b0 cap0 bs D)) w.heap.size b0 cap0 bs.length) (hlr : bs.length ≤ room) (hroom : room ≤ 1100000) (hfit : fr + 2 + (room + 63) / 64 ≤ nd) (hser : 0 ≤ h.ser ∧ h.ser < 4611686018427387904) (p : Nat) (hp : (p : Int) = h'.ser % 2) (h1 : h'.ser = h.ser + 1) (a : Option Addr) (len cap : Nat) (ys : List Int) (h2 : h'.cnt = (bs ++ ys).length) (hyl : ys.length = len) (hfr : bs.length + len ≤ room) (hys : SlE (Value.int .u8) w a ys) (hyx : ∀ g o, a = some ⟨g, o, none⟩ → 0 < len → g ∉ (feet (LogL gl gd gw gm fr room h b0 cap0 bs D))) (r : Bool × Dk) (hr : r = appR fr p h' bs ys D) (hrt : r.1 = true) (hL0 : Has (LogL gl gd gw gm fr room h b0 cap0 bs D) w) :
    CA Tryz.prog 29 [.pointer (some ⟨gl, 0, none⟩), .slice a len cap, .agg (noteE h'.nt).toArray] w (Ret (fun _ : Option Addr × Nat => .int .i64 0) (feet (LogL gl gd gw gm fr room h b0 cap0 bs D)) (fun z => LogL gl gd gw gm fr room h' z.1 z.2 (bs ++ ys) r.2) (fun z => BK z.1 z.2 (bs ++ ys).length) w) := by
  by_cases hy : ys = []
  · subst hy
    obtain rfl : len = 0 := by rw [← hyl]; rfl
    rw [List.append_nil] at h2 ⊢
    rw [appR, if_pos rfl] at hr
    exact ca_phi (append_0y gl gd gw gm fr room h h' b0 cap0 bs D nd hok ho hlr hroom hfit hser p hp h1 h2 a cap r hr hrt hL0) fun z hz => hz.ret
  · have hpos : 0 < len := by rw [← hyl]; exact List.length_pos_iff.2 hy
    rw [appR, if_neg hy] at hr
    obtain ⟨r1, hr1⟩ : ∃ r1, r1 = wrAll (rmW fr (bs ++ ys) (((bs ++ ys).length + 63) / 64 - bs.length / 64) (bs.length / 64)) D := ⟨_, rfl⟩
    rw [← hr1] at hr
    cases hb : r1.1 with
    | false => rw [hb] at hr; rw [hr, if_neg (by simp), hb] at hrt; cases hrt
    | true =>
      rw [hb, if_pos rfl] at hr
      exact ca_phi (append_2y gl gd gw gm fr room h h' b0 cap0 bs D nd hok ho hlr hroom hfit hser p hp h1 a len cap ys h2 hyl hpos hfr hys (fun g o e => hyx g o e hpos) r1 hr1 hb r hr hrt hL0) fun z hz => hz.ret
theorem append_n {w : World} (gl gd gw gm fr room : Nat) (h h' : Hd) (b0 : Option Addr) (cap0 : Nat) (bs : List Int) (D : Dk) (nd : Nat) (hok : D.OK nd) (ho : OS (feet (LogL gl gd gw gm fr room h b0 cap0 bs D)) w.heap.size b0 cap0 bs.length) (hlr : bs.length ≤ room) (hroom : room ≤ 1100000) (hfit : fr + 2 + (room + 63) / 64 ≤ nd) (hser : 0 ≤ h.ser ∧ h.ser < 4611686018427387904) (p : Nat) (hp : (p : Int) = h'.ser % 2) (h1 : h'.ser = h.ser + 1) (a : Option Addr) (len cap : Nat) (ys : List Int) (h2 : h'.cnt = (bs ++ ys).length) (hyl : ys.length = len) (hfr : bs.length + len ≤ room) (hys : SlE (Value.int .u8) w a ys) (hyx : ∀ g o, a = some ⟨g, o, none⟩ → 0 < len → g ∉ (feet (LogL gl gd gw gm fr room h b0 cap0 bs D))) (r : Bool × Dk) (hr : r = appR fr p h' bs ys D) (hrt : r.1 = false) (hL0 : Has (LogL gl gd gw gm fr room h b0 cap0 bs D) w) :
    CA Tryz.prog 29 [.pointer (some ⟨gl, 0, none⟩), .slice a len cap, .agg (noteE h'.nt).toArray] w (Ret (fun _ : Unit => .int .i64 5) (feet (LogL gl gd gw gm fr room h b0 cap0 bs D)) (fun _ => LgB gl gd fr room h (.slice b0 bs.length cap0) true :: DskL gd gw gm r.2) (fun _ => True) w) := by
  by_cases hy : ys = []
  · subst hy
    obtain rfl : len = 0 := by rw [← hyl]; rfl
    rw [List.append_nil] at h2
    rw [appR, if_pos rfl] at hr
    exact append_0n gl gd gw gm fr room h h' b0 cap0 bs D nd hok ho hlr hroom hfit hser p hp h1 h2 a cap r hr hrt hL0
  · have hpos : 0 < len := by rw [← hyl]; exact List.length_pos_iff.2 hy
    rw [appR, if_neg hy] at hr
    obtain ⟨r1, hr1⟩ : ∃ r1, r1 = wrAll (rmW fr (bs ++ ys) (((bs ++ ys).length + 63) / 64 - bs.length / 64) (bs.length / 64)) D := ⟨_, rfl⟩
    rw [← hr1] at hr
    cases hb : r1.1 with
    | false =>
      rw [hb, if_neg (by simp)] at hr
      rw [hr]
      exact append_1 gl gd gw gm fr room h h' b0 cap0 bs D nd hok ho hlr hroom hfit hser p hp h1 a len cap ys h2 hyl hpos hfr hys (fun g o e => hyx g o e hpos) r1 hr1 hb hL0
    | true =>
      rw [hb, if_pos rfl] at hr
      exact append_2n gl gd gw gm fr room h h' b0 cap0 bs D nd hok ho hlr hroom hfit hser p hp h1 a len cap ys h2 hyl hpos hfr hys (fun g o e => hyx g o e hpos) r1 hr1 hb r hr hrt hL0
set_option maxRecDepth 100000 in
set_option maxHeartbeats 4000000 in
theorem clear_y (gl gd gw gm fr room : Nat) (h h' : Hd) (s : Value) (D : Dk) (nd : Nat) (hok : D.OK nd) (hser : 0 ≤ h.ser ∧ h.ser < 4611686018427387904) (h1 : h'.ser = h.ser + 1) (h2 : h'.cnt = (0 : Nat)) (h3 : h'.nt = h.nt) (p : Nat) (hp : (p : Int) = h'.ser % 2) (hfit : fr + 2 ≤ nd) (r : Bool × Dk) (hr : r = wrAll [(fr + p, secH h')] D) (hrt : r.1 = true) (w : World) (hL0 : Has (LgB gl gd fr room h s false :: DskL gd gw gm D) w) :
    CA Tryz.prog 33 [.pointer (some ⟨gl, 0, none⟩)] w (Ret (fun _ : Unit => .int .i64 0) (feet (LgB gl gd fr room h s false :: DskL gd gw gm D)) (fun _ => LogL gl gd gw gm fr room h' none 0 [] r.2) (fun _ => True) w) := by
  have hnd := hok.n9
  refine enter (L := (LgB gl gd fr room h s false :: DskL gd gw gm D)) (X := (feet (LgB gl gd fr room h s false :: DskL gd gw gm D))) Tryz.func33 rfl Tryz.ntmps33 rfl rfl hL0 ?_
  repeat (first | refine c_seq ?_ | (refine c_region (id := 0) ?_; refine sq qa ?_; refine l_nil ?_) | (refine c_region (id := 1) ?_; refine sq qm ?_; refine se ?_; refine ecp rfl rfl (fun w hC hm hL => by exact ready_y gl gd fr room h s hser w (hL.sub (by (repeat (first | exact List.nil_sublist _ | exact List.Sublist.slnil | apply List.Sublist.cons_cons | exact List.Sublist.refl _ | apply List.Sublist.cons))))) ?_; intro m' hm'; refine sq qa ?_; refine l_nil ?_) | (refine c_region (id := 2) ?_; refine sq qm ?_; refine sq (by first | exact dneqt | exact dneqf) ?_; refine l_nil ?_) | refine n_then ?_ | refine c_block ?_ | refine c_skip ?_ | refine n_block ?_ | refine c_exit ?_ | refine n_then_exit ?_ | refine n_block_eq ?_ | refine n_block_ne rfl ?_ | refine c_ret ?_ | refine n_then_ret ?_ | refine n_block_ret ?_ | refine c_cond_t rfl ?_ | refine c_cond_f rfl ?_ | refine r_succ ?_ )
  repeat (first | refine c_seq ?_ | (refine c_region (id := 4) ?_; refine sq qm ?_; refine sq qm ?_; refine sq qn ?_; refine sq qf ?_; refine sq qf ?_; refine sq (by exact qlr (vs := noteE h'.nt) (hr := by rw [h3]; exact RdN.blk (by (repeat (first | exact List.Mem.head _ | apply List.Mem.tail))) (by rfl)) (hl := by rfl)) ?_; refine se ?_; refine e_callX (LgB gl gd fr room h s false :: DskL gd gw gm D) _ rfl rfl (by kernel_rfl) rfl (by (repeat (first | exact Sp.nil | (apply Sp.cons; focus (repeat (first | exact Rm.here | apply Rm.there)))))) (fun w hC hm hA hL hap => by exact become_y gl gd gw gm fr room h h' s D nd hok none 0 0 (by omega) hser h1 h2 p hp (by omega) r hr hrt w hA) (fun g hg => .inl hg) (fun _ => rfl) ?_; intro _ m5 _ _ hm5; refine sq qa ?_; refine l_nil ?_) | refine n_then ?_ | refine c_block ?_ | refine c_skip ?_ | refine n_block ?_ | refine c_exit ?_ | refine n_then_exit ?_ | refine n_block_eq ?_ | refine n_block_ne rfl ?_ | refine c_ret ?_ | refine n_then_ret ?_ | refine n_block_ret ?_ | refine c_cond_t rfl ?_ | refine c_cond_f rfl ?_ | refine r_succ ?_ )
  refine add_nil 5 1 ?_
  refine fgs (A := (LogL gl gd gw gm fr room h' none 0 [] r.2)) (by (repeat (first | exact Sp.nil | (apply Sp.cons; focus (repeat (first | exact Rm.here | apply Rm.there)))))) ?_
  (first | apply r_ret () | apply r_end ()); exact rfl; exact rfl; exact (.tmp rfl .nil); exact rfl; exact (List.Sublist.refl _); exact (fun g hg => .inl hg); exact trivial
set_option maxRecDepth 100000 in
set_option maxHeartbeats 4000000 in
theorem clear_n (gl gd gw gm fr room : Nat) (h h' : Hd) (s : Value) (D : Dk) (nd : Nat) (hok : D.OK nd) (hser : 0 ≤ h.ser ∧ h.ser < 4611686018427387904) (h1 : h'.ser = h.ser + 1) (h2 : h'.cnt = (0 : Nat)) (h3 : h'.nt = h.nt) (p : Nat) (hp : (p : Int) = h'.ser % 2) (hfit : fr + 2 ≤ nd) (r : Bool × Dk) (hr : r = wrAll [(fr + p, secH h')] D) (hrt : r.1 = false) (w : World) (hL0 : Has (LgB gl gd fr room h s false :: DskL gd gw gm D) w) :
    CA Tryz.prog 33 [.pointer (some ⟨gl, 0, none⟩)] w (Ret (fun _ : Unit => .int .i64 5) (feet (LgB gl gd fr room h s false :: DskL gd gw gm D)) (fun _ => LgB gl gd fr room h s true :: DskL gd gw gm r.2) (fun _ => True) w) := by
  have hnd := hok.n9
  refine enter (L := (LgB gl gd fr room h s false :: DskL gd gw gm D)) (X := (feet (LgB gl gd fr room h s false :: DskL gd gw gm D))) Tryz.func33 rfl Tryz.ntmps33 rfl rfl hL0 ?_
  repeat (first | refine c_seq ?_ | (refine c_region (id := 0) ?_; refine sq qa ?_; refine l_nil ?_) | (refine c_region (id := 1) ?_; refine sq qm ?_; refine se ?_; refine ecp rfl rfl (fun w hC hm hL => by exact ready_y gl gd fr room h s hser w (hL.sub (by (repeat (first | exact List.nil_sublist _ | exact List.Sublist.slnil | apply List.Sublist.cons_cons | exact List.Sublist.refl _ | apply List.Sublist.cons))))) ?_; intro m' hm'; refine sq qa ?_; refine l_nil ?_) | (refine c_region (id := 2) ?_; refine sq qm ?_; refine sq (by first | exact dneqt | exact dneqf) ?_; refine l_nil ?_) | refine n_then ?_ | refine c_block ?_ | refine c_skip ?_ | refine n_block ?_ | refine c_exit ?_ | refine n_then_exit ?_ | refine n_block_eq ?_ | refine n_block_ne rfl ?_ | refine c_ret ?_ | refine n_then_ret ?_ | refine n_block_ret ?_ | refine c_cond_t rfl ?_ | refine c_cond_f rfl ?_ | refine r_succ ?_ )
  repeat (first | refine c_seq ?_ | (refine c_region (id := 4) ?_; refine sq qm ?_; refine sq qm ?_; refine sq qn ?_; refine sq qf ?_; refine sq qf ?_; refine sq (by exact qlr (vs := noteE h'.nt) (hr := by rw [h3]; exact RdN.blk (by (repeat (first | exact List.Mem.head _ | apply List.Mem.tail))) (by rfl)) (hl := by rfl)) ?_; refine se ?_; refine e_callX (LgB gl gd fr room h s false :: DskL gd gw gm D) _ rfl rfl (by kernel_rfl) rfl (by (repeat (first | exact Sp.nil | (apply Sp.cons; focus (repeat (first | exact Rm.here | apply Rm.there)))))) (fun w hC hm hA hL hap => by exact become_n gl gd gw gm fr room h h' s D nd hok none 0 0 (by omega) hser h1 h2 p hp (by omega) r hr hrt w hA) (fun g hg => .inl hg) (fun _ => rfl) ?_; intro _ m5 _ _ hm5; refine sq qa ?_; refine l_nil ?_) | refine n_then ?_ | refine c_block ?_ | refine c_skip ?_ | refine n_block ?_ | refine c_exit ?_ | refine n_then_exit ?_ | refine n_block_eq ?_ | refine n_block_ne rfl ?_ | refine c_ret ?_ | refine n_then_ret ?_ | refine n_block_ret ?_ | refine c_cond_t rfl ?_ | refine c_cond_f rfl ?_ | refine r_succ ?_ )
  skip
  refine fgs (A := (LgB gl gd fr room h s true :: DskL gd gw gm r.2)) (by (repeat (first | exact Sp.nil | (apply Sp.cons; focus (repeat (first | exact Rm.here | apply Rm.there)))))) ?_
  (first | apply r_ret () | apply r_end ()); exact rfl; exact rfl; exact (.tmp rfl .nil); exact rfl; exact (List.Sublist.refl _); exact (fun g hg => .inl hg); exact trivial
end Go.Proofs.YtgmghkakiocmjaaGreatDoor
namespace Go.Proofs.YtgmghkakiocmjaaGreatDoor
open Go Go.RowKit
set_option linter.unusedVariables false
set_option linter.unusedSimpArgs false
def Dk.at (D : Dk) (i : Nat) : Nat → Int := (D.secs[i]?).getD fun _ => 0
theorem Dk.at_get {D : Dk} {i : Nat} (h : i < D.secs.length) : D.secs[i]? = some (D.at i) := by
  simp [Dk.at, List.getElem?_eq_getElem h]
theorem put_secs (D : Dk) (i : Nat) (f : Nat → Int) : (D.put i f).secs = D.secs.set i f := by
  unfold Dk.put; split <;> rfl
theorem put_at (D : Dk) (i j : Nat) (f : Nat → Int) (h : i < D.secs.length) : (D.lit.put i f).at j = if j = i then f else D.at j := by
  unfold Dk.at
  rw [put_secs]
  show ((D.secs.set i f)[j]?).getD _ = _
  rw [List.getElem?_set]
  by_cases e : j = i
  · subst e; simp [h]
  · rw [if_neg (fun h => e h.symm), if_neg e]
structure Dk.Free (D : Dk) : Prop where
  fu : D.fused = false
  go : D.gone = false
theorem Dk.Free.pg {D : Dk} (h : D.Free) : D.pgone = false := by unfold Dk.pgone; rw [h.fu, h.go]; rfl
theorem Dk.Free.put {D : Dk} (h : D.Free) (i : Nat) (f : Nat → Int) : (D.lit.put i f).Free := ⟨by rw [put_fused]; exact h.fu, Dk.put_gone _ _ _⟩
theorem Dk.Free.still {D : Dk} (h : D.Free) : D.lit.still.Free := ⟨h.fu, rfl⟩
structure RG (D : Dk) : Prop where
  s : ∀ i, RB (D.at i)
  m : ∀ e ∈ D.M, RB e.2.1
theorem Dk.new_at (n i : Nat) : (Dk.new n).at i = fun _ => 0 := by
  unfold Dk.at Dk.new
  simp only [List.getElem?_replicate]
  split <;> rfl
theorem RG.new (n : Nat) : RG (Dk.new n) := ⟨fun i => by rw [Dk.new_at]; exact RB.zero, fun e he => by simp [Dk.new] at he⟩
theorem RG.put {D : Dk} (h : RG D) (i : Nat) (hi : i < D.secs.length) {f : Nat → Int} (hf : RB f) : RG (D.lit.put i f) := by
  refine ⟨fun j => ?_, fun e he => ?_⟩
  · rw [put_at _ _ _ _ hi]
    split
    · exact hf
    · exact h.s j
  · unfold Dk.put at he
    split at he
    · simp only [List.mem_append, List.mem_singleton] at he
      rcases he with he | rfl
      · exact h.m e he
      · exact h.s i
    · exact h.m e he
theorem RG.lit {D : Dk} (h : RG D) : RG D.lit := ⟨h.s, h.m⟩
theorem RG.still {D : Dk} (h : RG D) : RG D.lit.still := ⟨h.s, fun e he => by simp [Dk.still] at he⟩
theorem RG.dead {D : Dk} (h : RG D) : RG D.dead := ⟨h.s, h.m⟩
theorem put_slen (D : Dk) (i : Nat) (f : Nat → Int) : (D.lit.put i f).secs.length = D.secs.length := by rw [put_secs]; simp [Dk.lit]
structure WF (l : List (Nat × (Nat → Int))) (D : Dk) (r : Bool × Dk) : Prop where
  ok : r.1 = true
  free : r.2.Free
  m : r.2.M = []
  rg : RG r.2
  len : r.2.secs.length = D.secs.length
  cl : r.2.cl ≤ D.cl + l.length
theorem wrAll_free : ∀ (l : List (Nat × (Nat → Int))) (D : Dk), (∀ e ∈ l, e.1 < D.secs.length ∧ RB e.2) → D.Free → RG D → WF l D (wrAll l D)
  | [], D, _, h, hg => by
    unfold wrAll Dk.sy
    rw [if_neg (by simp [h.pg])]
    exact ⟨rfl, h.still, rfl, hg.still, rfl, Nat.le_refl _⟩
  | e :: l, D, hl, h, hg => by
    unfold wrAll
    rw [if_neg (by simp [h.pg])]
    obtain ⟨h1, h2⟩ := hl e (List.mem_cons_self ..)
    have h3 := wrAll_free l (D.lit.put e.1 e.2) (fun e' he => by rw [put_slen]; exact hl e' (List.mem_cons_of_mem _ he)) (h.put _ _) (hg.put _ h1 h2)
    refine ⟨h3.ok, h3.free, h3.m, h3.rg, by rw [h3.len, put_slen], ?_⟩
    have h4 := h3.cl
    have h5 := put_cl D.lit e.1 e.2
    have h6 : D.lit.cl = D.cl := rfl
    simp only [List.length_cons]
    omega
theorem wrRoom_at (fr : Nat) (xs : List Int) : ∀ (k q : Nat) (D : Dk), D.Free → fr + (2 + q + k) ≤ D.secs.length → ∀ j, (wrAll (rmW fr xs k q) D).2.at j = if fr + (2 + q) ≤ j ∧ j < fr + (2 + q + k) then secAt xs (j - fr - 2) else D.at j
  | 0, q, D, h, _, j => by
    unfold rmW wrAll Dk.sy
    rw [if_neg (by simp [h.pg]), if_neg (by omega)]
    rfl
  | k + 1, q, D, h, hl, j => by
    unfold rmW wrAll
    rw [if_neg (by simp [h.pg])]
    dsimp only
    rw [wrRoom_at fr xs k (q + 1) _ (h.put _ _) (by rw [put_slen]; omega) j, put_at _ _ _ _ (by omega)]
    by_cases e : j = fr + (2 + q)
    · subst e
      rw [if_neg (by omega), if_pos rfl, if_pos (by omega)]
      congr 1
      omega
    · rw [if_neg e]
      by_cases e2 : fr + (2 + (q + 1)) ≤ j ∧ j < fr + (2 + (q + 1) + k)
      · rw [if_pos e2, if_pos (by omega)]
      · rw [if_neg e2, if_neg (by omega)]
theorem wrHead_at (i : Nat) (f : Nat → Int) (D : Dk) (h : D.Free) (hi : i < D.secs.length) (j : Nat) : (wrAll [(i, f)] D).2.at j = if j = i then f else D.at j := by
  unfold wrAll wrAll Dk.sy
  rw [if_neg (by simp [h.pg])]
  dsimp only
  rw [if_neg (by simp [(h.put i f).pg])]
  exact put_at _ _ _ _ hi
theorem rmW_RB {fr : Nat} {xs : List Int} (hx : ∀ x ∈ xs, 0 ≤ x ∧ x ≤ 255) : ∀ (k q : Nat), ∀ e ∈ rmW fr xs k q, RB e.2
  | 0, _, e, h => by simp [rmW] at h
  | k + 1, q, e, h => by
    simp only [rmW, List.mem_cons] at h
    rcases h with rfl | h
    · exact secAt_RB hx q
    · exact rmW_RB hx k (q + 1) e h
theorem rmW_len {fr : Nat} {xs : List Int} : ∀ (k q : Nat), (rmW fr xs k q).length = k
  | 0, _ => rfl
  | k + 1, q => by rw [rmW, List.length_cons, rmW_len k]
structure LogAt (D : Dk) (fr kn : Nat) (h : Hd) (bs : List Int) : Prop where
  st : stI ((kn - 2) * 64) (fun i => D.at (fr + i)) 2 = h
  cnt : h.cnt = bs.length
  le : bs.length ≤ (kn - 2) * 64
  bytes : rmL (fun i => D.at (fr + i)) bs.length = bs
theorem stI_at {room : Nat} {Fs Gs : Nat → Nat → Int} (h0 : Fs 0 = Gs 0) (h1 : Fs 1 = Gs 1) : stI room Fs 2 = stI room Gs 2 := by
  show stepH room 1 (stepH room 0 hdZ (Fs 0)) (Fs 1) = stepH room 1 (stepH room 0 hdZ (Gs 0)) (Gs 1)
  rw [h0, h1]
theorem next_head {room : Nat} {Fs Gs : Nat → Nat → Int} {h h' : Hd} (hF : stI room Fs 2 = h) (hK : HdK h') (hs : h'.ser = h.ser + 1) (hs0 : 0 ≤ h.ser) (hc : h'.cnt ≤ room) (p : Nat) (hp : (p : Int) = h'.ser % 2) (hG : Gs p = secH h') (hO : Gs (1 - p) = Fs (1 - p)) : stI room Gs 2 = h' := by
  have hF : stepH room 1 (stepH room 0 hdZ (Fs 0)) (Fs 1) = h := hF
  show stepH room 1 (stepH room 0 hdZ (Gs 0)) (Gs 1) = h'
  have hz : hdZ.ser = 0 := rfl
  have hev : (stepH room 0 hdZ (Fs 0)).ser % 2 = 0 := by
    unfold stepH
    split
    · rename_i hu; exact hu.2.2.1
    · rfl
  obtain rfl | rfl : p = 0 ∨ p = 1 := by omega
  · have hG1 : Gs 1 = Fs 1 := hO
    have e1 : stepH room 0 hdZ (Gs 0) = h' := by
      rw [hG]
      unfold stepH
      rw [hdOf_secH hK, if_pos ⟨secH_S _, by rw [hdOf_secH hK]; exact hc, by rw [hdOf_secH hK]; omega, by rw [hdOf_secH hK, hz]; omega⟩]
    rw [e1, hG1]
    have hFo : hdOf (Fs 1) = h := by
      clear e1
      generalize stepH room 0 hdZ (Fs 0) = s1 at hF hev
      unfold stepH at hF
      split at hF
      · exact hF
      · exfalso
        rw [hF] at hev
        omega
    unfold stepH
    rw [if_neg (fun hu => by have h4 := hu.2.2.2; rw [hFo] at h4; omega)]
  · have hG0 : Gs 0 = Fs 0 := hO
    rw [hG0, hG]
    have hs1 : stepH room 0 hdZ (Fs 0) = h := by
      rw [stepH] at hF
      split at hF
      · rename_i hu
        have h3 := hu.2.2.1
        rw [hF] at h3
        omega
      · exact hF
    rw [hs1]
    unfold stepH
    rw [hdOf_secH hK, if_pos ⟨secH_S _, by rw [hdOf_secH hK]; exact hc, by rw [hdOf_secH hK]; omega, by rw [hdOf_secH hK]; omega⟩]
theorem rmL_ext {Fs : Nat → Nat → Int} {xs : List Int} (h : ∀ p (hp : p < xs.length), Fs (2 + p / 64) (p % 64) = xs[p]) : rmL Fs xs.length = xs := by
  apply List.ext_getElem
  · simp [rmL]
  · intro i h1 h2
    simp only [rmL, List.getElem_map, List.getElem_range]
    exact h i h2
theorem rmL_get {Fs : Nat → Nat → Int} {xs : List Int} (h : rmL Fs xs.length = xs) (p : Nat) (hp : p < xs.length) : Fs (2 + p / 64) (p % 64) = xs[p] := by
  have h1 : (rmL Fs xs.length)[p]? = xs[p]? := by rw [h]
  simpa [rmL, hp] using h1
theorem LogAt.append {D : Dk} {fr kn : Nat} {h h' : Hd} {bs ys : List Int} (hl : LogAt D fr kn h bs) (hfr : fr + kn ≤ D.secs.length) (hk : 3 ≤ kn) (hf : D.Free) (hg : RG D) (hK : HdK h') (hs : h'.ser = h.ser + 1) (hs0 : 0 ≤ h.ser) (hc : h'.cnt = (bs ++ ys).length) (hroom : (bs ++ ys).length ≤ (kn - 2) * 64) (hx : ∀ x ∈ bs ++ ys, 0 ≤ x ∧ x ≤ 255) (p : Nat) (hp : (p : Int) = h'.ser % 2) :
    (appR fr p h' bs ys D).1 = true ∧ LogAt (appR fr p h' bs ys D).2 fr kn h' (bs ++ ys) ∧ (appR fr p h' bs ys D).2.Free ∧ RG (appR fr p h' bs ys D).2 ∧ (appR fr p h' bs ys D).2.M = [] ∧ (appR fr p h' bs ys D).2.secs.length = D.secs.length ∧ (appR fr p h' bs ys D).2.cl ≤ D.cl + kn := by
  have hp2 : p < 2 := by omega
  have hbs := rmL_get hl.bytes
  have hsec := secH_RB hK
  have hst := hl.st
  have key : ∀ D2 : Dk, D2.Free → RG D2 → D2.secs.length = D.secs.length → (∀ j, j < fr + 2 → D2.at j = D.at j) → rmL (fun i => D2.at (fr + i)) (bs ++ ys).length = bs ++ ys → (wrAll [(fr + p, secH h')] D2).1 = true ∧ LogAt (wrAll [(fr + p, secH h')] D2).2 fr kn h' (bs ++ ys) ∧ (wrAll [(fr + p, secH h')] D2).2.Free ∧ RG (wrAll [(fr + p, secH h')] D2).2 ∧ (wrAll [(fr + p, secH h')] D2).2.M = [] ∧ (wrAll [(fr + p, secH h')] D2).2.secs.length = D.secs.length ∧ (wrAll [(fr + p, secH h')] D2).2.cl ≤ D2.cl + 1 := by
    intro D2 h1 h2 h3 h4 h5
    have hw := wrAll_free [(fr + p, secH h')] D2 (fun e he => by simp only [List.mem_singleton] at he; subst he; exact ⟨by dsimp only; omega, hsec⟩) h1 h2
    have hat := wrHead_at (fr + p) (secH h') D2 h1 (by omega)
    refine ⟨hw.ok, ⟨?_, hc, hroom, ?_⟩, hw.free, hw.rg, hw.m, by rw [hw.len, h3], hw.cl⟩
    · refine next_head hst hK hs hs0 (by rw [hc]; exact_mod_cast hroom) p hp ?_ ?_
      · try dsimp only
        rw [hat, if_pos rfl]
      · try dsimp only
        rw [hat, if_neg (by omega)]; exact h4 _ (by omega)
    · refine rmL_ext fun q hq => ?_
      try dsimp only
      rw [hat, if_neg (by omega)]
      exact rmL_get h5 q hq
  unfold appR
  by_cases hy : ys = []
  · subst hy
    rw [if_pos rfl]
    obtain ⟨k1, k2, k3, k4, k5, k6, k7⟩ := key D hf hg rfl (fun _ _ => rfl) (by rw [List.append_nil]; exact hl.bytes)
    exact ⟨k1, k2, k3, k4, k5, k6, by omega⟩
  · rw [if_neg hy]
    have hlen : (bs ++ ys).length = bs.length + ys.length := by simp
    have hw := wrAll_free (rmW fr (bs ++ ys) (((bs ++ ys).length + 63) / 64 - bs.length / 64) (bs.length / 64)) D (fun e he => ⟨by have := rmW_lt _ _ e he; omega, rmW_RB hx _ _ e he⟩) hf hg
    have hat := wrRoom_at fr (bs ++ ys) (((bs ++ ys).length + 63) / 64 - bs.length / 64) (bs.length / 64) D hf (by omega)
    have hcl := hw.cl
    rw [rmW_len] at hcl
    rw [if_pos hw.ok]
    obtain ⟨k1, k2, k3, k4, k5, k6, k7⟩ := key _ hw.free hw.rg hw.len (fun j hj => by rw [hat, if_neg (by omega)]) (rmL_ext fun q hq => by
      try dsimp only
      rw [hat]
      by_cases e : fr + (2 + bs.length / 64) ≤ fr + (2 + q / 64)
      · rw [if_pos (by omega)]
        have e1 : fr + (2 + q / 64) - fr - 2 = q / 64 := by omega
        rw [e1]
        have e2 : 64 * (q / 64) + q % 64 = q := by omega
        simp only [secAt]
        rw [if_pos (by omega), e2, List.getElem?_eq_getElem hq, Option.getD_some]
      · rw [if_neg (by omega)]
        have hq2 : q < bs.length := by omega
        rw [List.getElem_append_left hq2]
        exact hbs q hq2)
    exact ⟨k1, k2, k3, k4, k5, k6, by omega⟩
theorem hdOf_zero : hdOf (fun _ => 0) = hdZ := by
  unfold hdOf hdZ
  congr 1
  funext j
  exact ite_self _
theorem stI_zero (room : Nat) : stI room (fun _ _ => 0) 2 = hdZ := by
  have e0 : stepH room 0 hdZ (fun _ => 0) = hdZ := by
    unfold stepH
    rw [hdOf_zero, ite_self]
  show stepH room 1 (stepH room 0 hdZ (fun _ => 0)) (fun _ => 0) = hdZ
  rw [e0]
  unfold stepH
  rw [hdOf_zero, ite_self]
theorem LogAt.new (n fr kn : Nat) : LogAt (Dk.new n) fr kn hdZ [] := by
  refine ⟨?_, rfl, Nat.zero_le _, rfl⟩
  have : (fun i => (Dk.new n).at (fr + i)) = fun _ _ => 0 := by funext i; rw [Dk.new_at]
  rw [this]
  exact stI_zero _
end Go.Proofs.YtgmghkakiocmjaaGreatDoor
namespace Go.Proofs.YtgmghkakiocmjaaGreatDoor
open Go Go.RowKit
set_option linter.unusedVariables false
set_option linter.unusedSimpArgs false
def noteF (n : Int) (j : Nat) : Int := if j < 16 then n else 0
theorem noteF_K {n : Int} (hn : 0 ≤ n ∧ n ≤ 255) : RB (noteF n) := ⟨fun j => by unfold noteF; split <;> omega⟩
theorem noteF_hi (n : Int) : ∀ j, 16 ≤ j → noteF n j = 0 := fun j hj => if_neg (by omega)
theorem os_bk {b : Option Addr} {cap n : Nat} (h : BK b cap n) : OS (Chunk.sl b 0 0 1 []).foot 0 b cap n := ⟨h.1, h.2.1, h.2.2, fun g hg => .inl hg⟩
theorem os_log {gl gd gw gm fr room : Nat} {h : Hd} {b : Option Addr} {cap : Nat} {xs : List Int} {D : Dk} {k : Nat} (h1 : xs.length ≤ cap) (h2 : cap ≤ 9223372036854775807) (h3 : (b = none ∧ xs.length = 0) ∨ ∃ g, b = some ⟨g, 0, none⟩) : OS (feet (LogL gl gd gw gm fr room h b cap xs D)) k b cap xs.length :=
  ⟨h1, h2, h3, fun g hg => .inl (by
    simp only [feet, List.flatMap_cons]
    exact List.mem_append_left _ (by cases b <;> exact hg))⟩
end Go.Proofs.YtgmghkakiocmjaaGreatDoor
namespace Go.Proofs.YtgmghkakiocmjaaGreatDoor
open Go Go.RowKit
set_option linter.unusedVariables false
def isIf : TypeDesc → Bool
  | .interface _ => true
  | _ => false
section
variable {P : Program} {T : List (Nat × Value)} {X : List Nat} {w0 : World} {L : List Chunk} {x y : Operand} {dst : Option Tmp} {ty t ty2 tx : TypeId} {pos : String} {af : Array Edge} {gu : Option (Nat × Bool)} {v : Value} {ds : TypeDesc} {ms : Array (String × TypeId)}
theorem q_mkI [hu : UT P t ds] (hx : ev T x = some v := by rfl) (hd : isIf ds = false := by rfl) : Qt P X w0 ⟨dst, .makeInterface t x, ty, pos, af, gu⟩ T L (.iface t v) := by
  refine ⟨?_⟩
  intro n a w hA hC hL
  cases ds <;> simp [isIf] at hd <;> simp [execOp, hA.eval hx, Instr.makeInterface, run_underlying hu.h]
theorem eqIface_in (hu : P.underlying t = some (.interface ms)) (tx : TypeId) (vx : Value) (w : World) : (Op.equal t (.iface tx vx) .nilIface).run P w = .ok false w := by
  have h : ∀ d : Nat, (Op.equalIn (d + 1) t (.iface tx vx) .nilIface).run P w = .ok false w := fun d => by simp [Op.equalIn, run_underlying hu]
  exact h 9999
theorem eqIface_nn (hu : P.underlying t = some (.interface ms)) (w : World) : (Op.equal t .nilIface .nilIface).run P w = .ok true w := by
  have h : ∀ d : Nat, (Op.equalIn (d + 1) t .nilIface .nilIface).run P w = .ok true w := fun d => by simp [Op.equalIn, run_underlying hu]
  exact h 9999
theorem q_neq_in [hu : UT P t (.interface ms)] (hx : ev T x = some (.iface tx v) := by rfl) : Qt P X w0 ⟨dst, .binOp .neq t x (.const .nilIface) ty2, ty, pos, af, gu⟩ T L (.bool true) :=
  q_bin_val hx (show ev T (.const .nilIface) = some .nilIface from rfl) (fun w => by simp [eqGuard]) fun w => by rw [show binOp .neq t (.iface tx v) .nilIface = (do pure (.bool (!(← Op.equal t (.iface tx v) .nilIface)))) from rfl]; simp only [Sem.run_bind, eqIface_in hu.h, Result.andThen_ok, Sem.run_pure, Bool.not_false]
theorem q_neq_nn [hu : UT P t (.interface ms)] (hx : ev T x = some .nilIface := by rfl) : Qt P X w0 ⟨dst, .binOp .neq t x (.const .nilIface) ty2, ty, pos, af, gu⟩ T L (.bool false) :=
  q_bin_val hx (show ev T (.const .nilIface) = some .nilIface from rfl) (fun w => by simp [eqGuard]) fun w => by rw [show binOp .neq t .nilIface .nilIface = (do pure (.bool (!(← Op.equal t .nilIface .nilIface)))) from rfl]; simp only [Sem.run_bind, eqIface_nn hu.h, Result.andThen_ok, Sem.run_pure, Bool.not_true]
end
end Go.Proofs.YtgmghkakiocmjaaGreatDoor
namespace Go.Proofs.YtgmghkakiocmjaaGreatDoor
open Go Go.RowKit
set_option linter.unusedVariables false
set_option linter.unusedSimpArgs false
section
variable {P : Program} {T : List (Nat × Value)} {X : List Nat} {w0 : World} {L : List Chunk} {x y : Operand} {dst : Option Tmp} {ty t ty2 : TypeId} {pos : String} {af : Array Edge} {gu : Option (Nat × Bool)}
theorem q_eql_nn {ms : Array (String × TypeId)} [hu : UT P t (.interface ms)] (hx : ev T x = some .nilIface) : Qt P X w0 ⟨dst, .binOp .eql t x (.const .nilIface) ty2, ty, pos, af, gu⟩ T L (.bool true) :=
  q_bin_val hx (show ev T (.const .nilIface) = some .nilIface from rfl) (fun w => by simp [eqGuard]) fun w => by rw [show binOp .eql t .nilIface .nilIface = (do pure (.bool (← Op.equal t .nilIface .nilIface))) from rfl]; simp only [Sem.run_bind, eqIface_nn hu.h, Result.andThen_ok, Sem.run_pure]
end
abbrev stC (at_ : Bool) (ga gb : Nat) : Array Value := match at_ with
  | false => #[.pointer (some ⟨ga, 0, none⟩), .pointer (some ⟨gb, 0, none⟩), .int .i64 0]
  | true => #[.pointer (some ⟨gb, 0, none⟩), .pointer (some ⟨ga, 0, none⟩), .int .i64 1]
def genH (h : Hd) : Int := numB h.nt 0 8
theorem note_nth (f : Nat → Int) (i : Nat) (hi : i < 8) : nth (noteE f) i = some (.int .u8 (f (0 + i))) := by
  match i, hi with
  | 0, _ => rfl
  | 1, _ => rfl
  | 2, _ => rfl
  | 3, _ => rfl
  | 4, _ => rfl
  | 5, _ => rfl
  | 6, _ => rfl
  | 7, _ => rfl
  | q + 8, h => exact absurd h (by omega)
set_option maxRecDepth 100000 in
set_option maxHeartbeats 4000000 in
theorem gener_c (gl gd fr room : Nat) (h : Hd) (hK : RB h.nt) (s : Value) (ov : Bool) (w : World) (hL0 : Has [LgB gl gd fr room h s ov] w) : CA Tryz.prog 24 [.pointer (some ⟨gl, 0, none⟩)] w (RV (.int .u64 (genH h)) w) := by
  refine enter (L := [LgB gl gd fr room h s ov]) (X := []) Tryz.func24 rfl Tryz.ntmps24 rfl rfl hL0 ?_
  repeat (first | refine c_seq ?_ | (refine c_region (id := 0) ?_; refine sq qa ?_; refine l_nil ?_) | (refine c_region (id := 1) ?_; refine sq qm ?_; refine se ?_; refine ecp rfl rfl (fun w hC hm hL => by exact note_c gl gd fr room h s ov w (hL.sub (by (repeat (first | exact List.nil_sublist _ | exact List.Sublist.slnil | apply List.Sublist.cons_cons | exact List.Sublist.refl _ | apply List.Sublist.cons))))) ?_; intro m1 hm1; refine se ?_; refine ea ?_; refine se ?_; refine esa ?_ (hk := by rfl) (ho := by rfl) (hoff := by rfl); refine l_nil ?_) | (refine c_region (id := 2) ?_; refine sq qa ?_; refine l_nil ?_) | (refine c_region (id := 3) ?_; refine sq qsa ?_; refine sq qls ?_; refine sq qm ?_; refine l_nil ?_) | refine n_then ?_ | refine c_block ?_ | refine c_skip ?_ | refine n_block ?_ | refine c_exit ?_ | refine n_then_exit ?_ | refine n_block_eq ?_ | refine n_block_ne rfl ?_ | refine c_ret ?_ | refine n_then_ret ?_ | refine n_block_ret ?_ | refine c_cond_t rfl ?_ | refine c_cond_f rfl ?_ | refine r_succ ?_ )
  refine c_loop (γ := Nat) (fun i => [(11, .int .i64 i), (9, .slice (some ⟨m1, 0, none⟩) 8 16), (10, .int .i64 (8 : Nat)), (4, .int .u64 (numB h.nt 0 i))]) (fun _ => m1 + 1) (fun _ => [.blk m1 (.cells (noteE h.nt).toArray 69 (0, 0))]) (fun i => i ≤ 8) (fun i => 8 - i) 0 (by simp) ⟨rfl, rfl, rfl, rfl, trivial⟩ rfl (by (repeat (first | exact List.nil_sublist _ | exact List.Sublist.slnil | apply List.Sublist.cons_cons | exact List.Sublist.refl _ | apply List.Sublist.cons))) ?_
  intro i hi
  by_cases h8 : i < 8
  · have hr := numB_rng hK 0 i
    have hp := pw256 i h8
    have hst := num_step (x := numB h.nt 0 i) (d := h.nt (0 + i)) ⟨hr.1, by omega⟩ (hK.h _)
    have hn := note_nth h.nt i h8
    repeat (first | refine c_seq ?_ | (refine c_region (id := 4) ?_; refine sq (by first | exact dlsst | exact dlssf) ?_; refine l_nil ?_) | (refine c_region (id := 5) ?_; refine sq (by exact qis (o' := i) (ho := by omega)) ?_; refine sq (by exact ql (hr := Rd.blkn (by (repeat (first | exact List.Mem.head _ | apply List.Mem.tail))) hn)) ?_; refine sq qa ?_; refine l_nil ?_) | (refine c_region (id := 6) ?_; refine sq qm ?_; refine sq qshlU ?_; refine sq qm ?_; refine sq qcU ?_; refine sq qor ?_; refine sq qa ?_; refine l_nil ?_) | (refine c_region (id := 7) ?_; refine sq qadd64 ?_; refine sq qm ?_; refine l_nil ?_) | refine n_then ?_ | refine c_block ?_ | refine c_skip ?_ | refine n_block ?_ | refine c_exit ?_ | refine n_then_exit ?_ | refine n_block_eq ?_ | refine n_block_ne rfl ?_ | refine c_ret ?_ | refine n_then_ret ?_ | refine n_block_ret ?_ | refine c_cond_t rfl ?_ | refine c_cond_f rfl ?_ | refine r_succ ?_ )
    refine c_round (i + 1) (by omega) (by omega) ⟨rfl, rfl, rfl, by rw [numB, ← hst]; rfl, trivial⟩ rfl (List.Sublist.refl _)
  · obtain rfl : i = 8 := by omega
    repeat (first | refine c_seq ?_ | (refine c_region (id := 4) ?_; refine sq (by first | exact dlsst | exact dlssf) ?_; refine l_nil ?_) | (refine c_region (id := 8) ?_; refine sq qm ?_; refine sq qa ?_; refine l_nil ?_) | refine n_then ?_ | refine c_block ?_ | refine c_skip ?_ | refine n_block ?_ | refine c_exit ?_ | refine n_then_exit ?_ | refine n_block_eq ?_ | refine n_block_ne rfl ?_ | refine c_ret ?_ | refine n_then_ret ?_ | refine n_block_ret ?_ | refine c_cond_t rfl ?_ | refine c_cond_f rfl ?_ | refine r_succ ?_ )
    (first | apply r_ret () | apply r_end ()); exact rfl; exact rfl; exact (.tmp rfl .nil); exact rfl; exact (List.nil_sublist _); exact new_nil; exact trivial
set_option maxRecDepth 100000 in
set_option maxHeartbeats 4000000 in
theorem either_0 (gs ga gb : Nat) (v : Value) (w : World) (hO : Old w gs 0 [.pointer (some ⟨ga, 0, none⟩), .pointer (some ⟨gb, 0, none⟩), v]) : CA Tryz.prog 50 [.pointer (some ⟨gs, 0, none⟩), .int .i64 0] w (RV (.pointer (some ⟨ga, 0, none⟩)) w) := by
  refine enter (L := []) (X := []) Tryz.func50 rfl Tryz.ntmps50 rfl rfl (Has.nil _) ?_
  repeat (first | refine c_seq ?_ | (refine c_region (id := 0) ?_; refine sq qa ?_; refine l_nil ?_) | (refine c_region (id := 1) ?_; refine sq qm ?_; refine sq qm ?_; refine sq qn ?_; refine sq qf ?_; refine sq qia ?_; refine sq (by exact ql (hr := Rd.oldn (j := 0) hO (by rfl) (by simp))) ?_; refine sq (by exact q_eql_pnil rfl rfl (by kernel_rfl)) ?_; refine l_nil ?_) | (refine c_region (id := 3) ?_; refine sq qm ?_; refine sq qm ?_; refine sq qn ?_; refine sq qf ?_; refine sq qia ?_; refine sq (by exact ql (hr := Rd.oldn (j := 0) hO (by rfl) (by simp))) ?_; refine sq qa ?_; refine l_nil ?_) | refine n_then ?_ | refine c_block ?_ | refine c_skip ?_ | refine n_block ?_ | refine c_exit ?_ | refine n_then_exit ?_ | refine n_block_eq ?_ | refine n_block_ne rfl ?_ | refine c_ret ?_ | refine n_then_ret ?_ | refine n_block_ret ?_ | refine c_cond_t rfl ?_ | refine c_cond_f rfl ?_ | refine r_succ ?_ )
  (first | apply r_ret () | apply r_end ()); exact rfl; exact rfl; exact (.tmp rfl .nil); exact rfl; exact (List.nil_sublist _); exact new_nil; exact trivial
set_option maxRecDepth 100000 in
set_option maxHeartbeats 4000000 in
theorem either_1 (gs ga gb : Nat) (v : Value) (w : World) (hO : Old w gs 0 [.pointer (some ⟨ga, 0, none⟩), .pointer (some ⟨gb, 0, none⟩), v]) : CA Tryz.prog 50 [.pointer (some ⟨gs, 0, none⟩), .int .i64 1] w (RV (.pointer (some ⟨gb, 0, none⟩)) w) := by
  refine enter (L := []) (X := []) Tryz.func50 rfl Tryz.ntmps50 rfl rfl (Has.nil _) ?_
  repeat (first | refine c_seq ?_ | (refine c_region (id := 0) ?_; refine sq qa ?_; refine l_nil ?_) | (refine c_region (id := 1) ?_; refine sq qm ?_; refine sq qm ?_; refine sq qn ?_; refine sq qf ?_; refine sq qia ?_; refine sq (by exact ql (hr := Rd.oldn (j := 1) hO (by rfl) (by simp))) ?_; refine sq (by exact q_eql_pnil rfl rfl (by kernel_rfl)) ?_; refine l_nil ?_) | (refine c_region (id := 3) ?_; refine sq qm ?_; refine sq qm ?_; refine sq qn ?_; refine sq qf ?_; refine sq qia ?_; refine sq (by exact ql (hr := Rd.oldn (j := 1) hO (by rfl) (by simp))) ?_; refine sq qa ?_; refine l_nil ?_) | refine n_then ?_ | refine c_block ?_ | refine c_skip ?_ | refine n_block ?_ | refine c_exit ?_ | refine n_then_exit ?_ | refine n_block_eq ?_ | refine n_block_ne rfl ?_ | refine c_ret ?_ | refine n_then_ret ?_ | refine n_block_ret ?_ | refine c_cond_t rfl ?_ | refine c_cond_f rfl ?_ | refine r_succ ?_ )
  (first | apply r_ret () | apply r_end ()); exact rfl; exact rfl; exact (.tmp rfl .nil); exact rfl; exact (List.nil_sublist _); exact new_nil; exact trivial
set_option maxRecDepth 100000 in
set_option maxHeartbeats 4000000 in
theorem slog_c (at_ : Bool) (gs ga gb : Nat) (w : World) (hO : Old w gs 0 (stC at_ ga gb).toList) : CA Tryz.prog 27 [.pointer (some ⟨gs, 0, none⟩)] w (RV (.pointer (some ⟨ga, 0, none⟩)) w) := by
  cases at_ with
  | false =>
    refine enter (L := []) (X := []) Tryz.func27 rfl Tryz.ntmps27 rfl rfl (Has.nil _) ?_
    repeat (first | refine c_seq ?_ | (refine c_region (id := 0) ?_; refine sq qa ?_; refine l_nil ?_) | (refine c_region (id := 1) ?_; refine sq qm ?_; refine sq qm ?_; refine sq qn ?_; refine sq qf ?_; refine sq (by exact ql (hr := Rd.oldn (j := 2) hO (by rfl) (by simp))) ?_; refine se ?_; refine ecp rfl rfl (fun w hC hm hL => by first | exact either_0 gs _ _ _ w (hO.ch hC (by simp)) | exact either_1 gs _ _ _ w (hO.ch hC (by simp))) ?_; intro m' hm'; refine sq qa ?_; refine l_nil ?_) | refine n_then ?_ | refine c_block ?_ | refine c_skip ?_ | refine n_block ?_ | refine c_exit ?_ | refine n_then_exit ?_ | refine n_block_eq ?_ | refine n_block_ne rfl ?_ | refine c_ret ?_ | refine n_then_ret ?_ | refine n_block_ret ?_ | refine c_cond_t rfl ?_ | refine c_cond_f rfl ?_ | refine r_succ ?_ )
    (first | apply r_ret () | apply r_end ()); exact rfl; exact rfl; exact (.tmp rfl .nil); exact rfl; exact (List.nil_sublist _); exact new_nil; exact trivial
  | true =>
    refine enter (L := []) (X := []) Tryz.func27 rfl Tryz.ntmps27 rfl rfl (Has.nil _) ?_
    repeat (first | refine c_seq ?_ | (refine c_region (id := 0) ?_; refine sq qa ?_; refine l_nil ?_) | (refine c_region (id := 1) ?_; refine sq qm ?_; refine sq qm ?_; refine sq qn ?_; refine sq qf ?_; refine sq (by exact ql (hr := Rd.oldn (j := 2) hO (by rfl) (by simp))) ?_; refine se ?_; refine ecp rfl rfl (fun w hC hm hL => by first | exact either_0 gs _ _ _ w (hO.ch hC (by simp)) | exact either_1 gs _ _ _ w (hO.ch hC (by simp))) ?_; intro m' hm'; refine sq qa ?_; refine l_nil ?_) | refine n_then ?_ | refine c_block ?_ | refine c_skip ?_ | refine n_block ?_ | refine c_exit ?_ | refine n_then_exit ?_ | refine n_block_eq ?_ | refine n_block_ne rfl ?_ | refine c_ret ?_ | refine n_then_ret ?_ | refine n_block_ret ?_ | refine c_cond_t rfl ?_ | refine c_cond_f rfl ?_ | refine r_succ ?_ )
    (first | apply r_ret () | apply r_end ()); exact rfl; exact rfl; exact (.tmp rfl .nil); exact rfl; exact (List.nil_sublist _); exact new_nil; exact trivial
set_option maxRecDepth 100000 in
set_option maxHeartbeats 4000000 in
theorem soth_c (at_ : Bool) (gs ga gb : Nat) (w : World) (hO : Old w gs 0 (stC at_ ga gb).toList) : CA Tryz.prog 31 [.pointer (some ⟨gs, 0, none⟩)] w (RV (.pointer (some ⟨gb, 0, none⟩)) w) := by
  cases at_ with
  | false =>
    refine enter (L := []) (X := []) Tryz.func31 rfl Tryz.ntmps31 rfl rfl (Has.nil _) ?_
    repeat (first | refine c_seq ?_ | (refine c_region (id := 0) ?_; refine sq qa ?_; refine l_nil ?_) | (refine c_region (id := 1) ?_; refine sq qm ?_; refine sq qm ?_; refine sq qn ?_; refine sq qf ?_; refine sq (by exact ql (hr := Rd.oldn (j := 2) hO (by rfl) (by simp))) ?_; refine sq qsub64 ?_; refine se ?_; refine ecp rfl rfl (fun w hC hm hL => by first | exact either_0 gs _ _ _ w (hO.ch hC (by simp)) | exact either_1 gs _ _ _ w (hO.ch hC (by simp))) ?_; intro m' hm'; refine sq qa ?_; refine l_nil ?_) | refine n_then ?_ | refine c_block ?_ | refine c_skip ?_ | refine n_block ?_ | refine c_exit ?_ | refine n_then_exit ?_ | refine n_block_eq ?_ | refine n_block_ne rfl ?_ | refine c_ret ?_ | refine n_then_ret ?_ | refine n_block_ret ?_ | refine c_cond_t rfl ?_ | refine c_cond_f rfl ?_ | refine r_succ ?_ )
    (first | apply r_ret () | apply r_end ()); exact rfl; exact rfl; exact (.tmp rfl .nil); exact rfl; exact (List.nil_sublist _); exact new_nil; exact trivial
  | true =>
    refine enter (L := []) (X := []) Tryz.func31 rfl Tryz.ntmps31 rfl rfl (Has.nil _) ?_
    repeat (first | refine c_seq ?_ | (refine c_region (id := 0) ?_; refine sq qa ?_; refine l_nil ?_) | (refine c_region (id := 1) ?_; refine sq qm ?_; refine sq qm ?_; refine sq qn ?_; refine sq qf ?_; refine sq (by exact ql (hr := Rd.oldn (j := 2) hO (by rfl) (by simp))) ?_; refine sq qsub64 ?_; refine se ?_; refine ecp rfl rfl (fun w hC hm hL => by first | exact either_0 gs _ _ _ w (hO.ch hC (by simp)) | exact either_1 gs _ _ _ w (hO.ch hC (by simp))) ?_; intro m' hm'; refine sq qa ?_; refine l_nil ?_) | refine n_then ?_ | refine c_block ?_ | refine c_skip ?_ | refine n_block ?_ | refine c_exit ?_ | refine n_then_exit ?_ | refine n_block_eq ?_ | refine n_block_ne rfl ?_ | refine c_ret ?_ | refine n_then_ret ?_ | refine n_block_ret ?_ | refine c_cond_t rfl ?_ | refine c_cond_f rfl ?_ | refine r_succ ?_ )
    (first | apply r_ret () | apply r_end ()); exact rfl; exact rfl; exact (.tmp rfl .nil); exact rfl; exact (List.nil_sublist _); exact new_nil; exact trivial
set_option maxRecDepth 100000 in
set_option maxHeartbeats 4000000 in
theorem failed_ok (d : Value) (w : World) : CA Tryz.prog 22 [d, .int .i64 0] w (RV .nilIface w) := by
  refine enter (L := []) (X := []) Tryz.func22 rfl Tryz.ntmps22 rfl rfl (Has.nil _) ?_
  repeat (first | refine c_seq ?_ | (refine c_region (id := 0) ?_; refine sq qa ?_; refine l_nil ?_) | (refine c_region (id := 1) ?_; refine sq qm ?_; refine l_nil ?_) | (refine c_region (id := 2) ?_; refine sq (by first | exact deqlt | exact deqlf) ?_; refine sq qa ?_; refine l_nil ?_) | (refine c_region (id := 3) ?_; refine sq qa ?_; refine l_nil ?_) | refine n_then ?_ | refine c_block ?_ | refine c_skip ?_ | refine n_block ?_ | refine c_exit ?_ | refine n_then_exit ?_ | refine n_block_eq ?_ | refine n_block_ne rfl ?_ | refine c_ret ?_ | refine n_then_ret ?_ | refine n_block_ret ?_ | refine c_cond_t rfl ?_ | refine c_cond_f rfl ?_ | refine r_succ ?_ )
  (first | apply r_ret () | apply r_end ()); exact rfl; exact rfl; exact (.tmp rfl .nil); exact rfl; exact (List.nil_sublist _); exact new_nil; exact trivial
set_option maxRecDepth 100000 in
set_option maxHeartbeats 4000000 in
theorem told_ok (w : World) : CA Tryz.prog 23 [.nilIface] w (RV (.int .i64 0) w) := by
  refine enter (L := []) (X := []) Tryz.func23 rfl Tryz.ntmps23 rfl rfl (Has.nil _) ?_
  repeat (first | refine c_seq ?_ | (refine c_region (id := 0) ?_; refine sq qa ?_; refine l_nil ?_) | (refine c_region (id := 1) ?_; refine sq qm ?_; refine sq (by exact q_eql_nn rfl) ?_; refine sq qa ?_; refine l_nil ?_) | (refine c_region (id := 2) ?_; refine sq qa ?_; refine l_nil ?_) | refine n_then ?_ | refine c_block ?_ | refine c_skip ?_ | refine n_block ?_ | refine c_exit ?_ | refine n_then_exit ?_ | refine n_block_eq ?_ | refine n_block_ne rfl ?_ | refine c_ret ?_ | refine n_then_ret ?_ | refine n_block_ret ?_ | refine c_cond_t rfl ?_ | refine c_cond_f rfl ?_ | refine r_succ ?_ )
  (first | apply r_ret () | apply r_end ()); exact rfl; exact rfl; exact (.tmp rfl .nil); exact rfl; exact (List.nil_sublist _); exact new_nil; exact trivial
end Go.Proofs.YtgmghkakiocmjaaGreatDoor
namespace Go.Proofs.YtgmghkakiocmjaaGreatDoor
open Go Go.RowKit
set_option linter.unusedVariables false
set_option linter.unusedSimpArgs false
theorem bk_new {X : List Nat} {k : Nat} {b : Option Addr} {cap n c2 sz : Nat} {e : TypeId} {xs : List Value} (h : BK b cap n) (hn : ∀ g, b = some ⟨g, 0, none⟩ → k ≤ g) : ∀ g ∈ (Chunk.sl b c2 e sz xs).foot, g ∈ X ∨ k ≤ g := by
  intro g hg
  rcases h.2.2 with ⟨e9, _⟩ | ⟨g9, e9⟩
  · rw [e9] at hg; simp [Chunk.foot] at hg
  · rw [e9] at hg; simp [Chunk.foot] at hg; rw [hg]; exact .inr (hn g9 e9)
abbrev StL (gs : Nat) (at_ : Bool) (ga : Nat) (ba : Option Addr) (ca : Nat) (ha : Hd) (bsa : List Int) (fra : Nat) (gb : Nat) (bb : Option Addr) (cb : Nat) (hb : Hd) (bsb : List Int) (frb room gd : Nat) : List Chunk :=
  [.blk gs (.cells (stC at_ ga gb) 56 (0, 0)), .sl ba ca 5 1 ((bsa).map (Value.int .u8)), LgB ga gd fra room ha (.slice ba bsa.length ca) false, .sl bb cb 5 1 ((bsb).map (Value.int .u8)), LgB gb gd frb room hb (.slice bb bsb.length cb) false]
set_option maxRecDepth 100000 in
set_option maxHeartbeats 4000000 in
theorem sopen_0 (gd gw gm : Nat) (D : Dk) (hgo : D.gone = false) (hn6 : D.secs.length ≤ 16384) (hrg : RG D) (n6 : 6 ≤ D.secs.length) (half : Nat) (hhf : half = D.secs.length / 2) (h0 h1 : Hd) (bs0 bs1 : List Int) (hl0 : LogAt D 0 half h0 bs0) (hl1 : LogAt D half half h1 bs1) (hk0 : HdK h0) (hk1 : HdK h1) (hge : ¬ genH h0 < genH h1) (w : World) (hD : Has (DskL gd gw gm D) w) :
    CA Tryz.prog 8 [.pointer (some ⟨gd, 0, none⟩)] w (Ret (fun z : Nat × (Nat × Option Addr × Nat) × (Nat × Option Addr × Nat) => .tuple #[.pointer (some ⟨z.1, 0, none⟩), .int .i64 0]) [] (fun z => StL z.1 false z.2.1.1 z.2.1.2.1 z.2.1.2.2 h0 bs0 0 z.2.2.1 z.2.2.2.1 z.2.2.2.2 h1 bs1 half ((half - 2) * 64) gd) (fun z => BK z.2.1.2.1 z.2.1.2.2 bs0.length ∧ BK z.2.2.2.1 z.2.2.2.2 bs1.length) w) := by
  refine enter (L := DskL gd gw gm D) (X := []) Tryz.func8 rfl Tryz.ntmps8 rfl rfl hD ?_
  repeat (first | refine c_seq ?_ | (refine c_region (id := 0) ?_; refine sq qa ?_; refine sq qa ?_; refine l_nil ?_) | (refine c_region (id := 1) ?_; refine sq qm ?_; refine se ?_; refine ecp rfl rfl (fun w hC hm hL => by exact sect_c gd gw gm D w (hL.sub (by (repeat (first | exact List.nil_sublist _ | exact List.Sublist.slnil | apply List.Sublist.cons_cons | exact List.Sublist.refl _ | apply List.Sublist.cons))))) ?_; intro m' hm'; refine sq (by first | exact dlsst | exact dlssf) ?_; refine l_nil ?_) | refine n_then ?_ | refine c_block ?_ | refine c_skip ?_ | refine n_block ?_ | refine c_exit ?_ | refine n_then_exit ?_ | refine n_block_eq ?_ | refine n_block_ne rfl ?_ | refine c_ret ?_ | refine n_then_ret ?_ | refine n_block_ret ?_ | refine c_cond_t rfl ?_ | refine c_cond_f rfl ?_ | refine r_succ ?_ )
  repeat (first | refine c_seq ?_ | (refine c_region (id := 3) ?_; refine sq qbs ?_; refine se ?_; refine eb ?_; refine sq qa ?_; refine l_nil ?_) | refine n_then ?_ | refine c_block ?_ | refine c_skip ?_ | refine n_block ?_ | refine c_exit ?_ | refine n_then_exit ?_ | refine n_block_eq ?_ | refine n_block_ne rfl ?_ | refine c_ret ?_ | refine n_then_ret ?_ | refine n_block_ret ?_ | refine c_cond_t rfl ?_ | refine c_cond_f rfl ?_ | refine r_succ ?_ )
  obtain ⟨mb, hmb⟩ : ∃ mb, mb = m' := ⟨_, rfl⟩
  rw [← hmb]
  repeat (first | refine c_rounds 3 ?_ | refine c_seq ?_ | (refine c_region (id := 4) ?_; refine sq qm ?_; refine se ?_; refine ecp rfl rfl (fun w hC hm hL => by exact sect_c gd gw gm D w (hL.sub (by (repeat (first | exact List.nil_sublist _ | exact List.Sublist.slnil | apply List.Sublist.cons_cons | exact List.Sublist.refl _ | apply List.Sublist.cons))))) ?_; intro m' hm'; refine sq (by exact Qt.cast (v' := .int .i64 ((half : Nat) : Int)) (congrArg (Value.int .i64) (by omega)) (q_quo rfl rfl (by omega) (by omega) (by first | rfl | (simp only [IntKind.wrap_i64]; omega)))) ?_; refine sq qa ?_; refine l_nil ?_) | (refine c_region (id := 5) ?_; refine sq qm ?_; refine l_nil ?_) | (refine c_region (id := 6) ?_; refine sq (by first | exact dlsst | exact dlssf) ?_; refine l_nil ?_) | (refine c_region (id := 7) ?_; refine sq qm ?_; refine sq qa ?_; refine l_nil ?_) | (refine c_region (id := 8) ?_; refine sq qm ?_; refine sq qm ?_; refine sq qm ?_; refine sq (by first | exact Qt.cast (v' := .int .i64 ((0 : Nat) : Int)) (congrArg (Value.int .i64) (by omega)) (q_mul64 rfl rfl ⟨by omega, by omega⟩ rfl) | exact Qt.cast (v' := .int .i64 ((half : Nat) : Int)) (congrArg (Value.int .i64) (by omega)) (q_mul64 rfl rfl ⟨by omega, by omega⟩ rfl)) ?_; refine sq qm ?_; refine se ?_; (first | (refine ecl rfl rfl (fun w hC hm hL => by exact open_c gd gw gm 0 half ⟨by omega, by omega⟩ (fun i => D.at (0 + i)) D hgo hn6 (by omega) (fun i hi => Dk.at_get (by omega)) (fun i _ => hrg.s _) bs0.length (by rw [hl0.st]; exact hl0.cnt) w (hL.sub (by (repeat (first | exact List.nil_sublist _ | exact List.Sublist.slnil | apply List.Sublist.cons_cons | exact List.Sublist.refl _ | apply List.Sublist.cons))))) ?_; intro z2 m2 hz2 hn2 hm2; obtain ⟨gl2, bl2, cl2⟩ := z2; have hq2 : w.heap.size ≤ gl2 := (by have := hn2 gl2 (by simp [feet, Chunk.foot]); omega); have hb2 : ∀ g, bl2 = some ⟨g, 0, none⟩ → w.heap.size ≤ g := (fun g e => by have := hn2 g (by simp [feet, Chunk.foot, e]); omega); dsimp only at hz2 ⊢; rw [hl0.st, hl0.bytes]) | (refine ecl rfl rfl (fun w hC hm hL => by exact open_c gd gw gm half half ⟨by omega, by omega⟩ (fun i => D.at (half + i)) D hgo hn6 (by omega) (fun i hi => Dk.at_get (by omega)) (fun i _ => hrg.s _) bs1.length (by rw [hl1.st]; exact hl1.cnt) w (hL.sub (by (repeat (first | exact List.nil_sublist _ | exact List.Sublist.slnil | apply List.Sublist.cons_cons | exact List.Sublist.refl _ | apply List.Sublist.cons))))) ?_; intro z5 m5 hz5 hn5 hm5; obtain ⟨gl5, bl5, cl5⟩ := z5; have hq5 : w.heap.size ≤ gl5 := (by have := hn5 gl5 (by simp [feet, Chunk.foot]); omega); have hb5 : ∀ g, bl5 = some ⟨g, 0, none⟩ → w.heap.size ≤ g := (fun g e => by have := hn5 g (by simp [feet, Chunk.foot, e]); omega); dsimp only at hz5 ⊢; rw [hl1.st, hl1.bytes])); refine sq qm ?_; refine sq qe ?_; refine sq qe ?_; refine sq qa ?_; refine sq qa ?_; refine l_nil ?_) | (refine c_region (id := 9) ?_; refine sq qm ?_; refine se ?_; refine ecp rfl rfl (fun w hC hm hL => by exact failed_ok _ w) ?_; intro m' hm'; refine sq qa ?_; refine l_nil ?_) | (refine c_region (id := 10) ?_; refine sq qm ?_; refine sq (by exact q_neq_nn (hx := rfl)) ?_; refine l_nil ?_) | (refine c_region (id := 12) ?_; refine sq qm ?_; refine sq qm ?_; refine sq qm ?_; refine sq qn ?_; refine sq qf ?_; refine sq qia ?_; refine se ?_; refine es1 ?_ (hg := .inr (by omega)); refine l_nil ?_) | (refine c_region (id := 13) ?_; refine sq qadd64 ?_; refine sq qm ?_; refine l_nil ?_) | refine n_then ?_ | refine c_block ?_ | refine c_skip ?_ | refine n_block ?_ | refine c_exit ?_ | refine n_then_exit ?_ | refine n_block_eq ?_ | refine n_block_ne rfl ?_ | refine c_ret ?_ | refine n_then_ret ?_ | refine n_block_ret ?_ | refine c_cond_t rfl ?_ | refine c_cond_f rfl ?_ | refine r_succ ?_ )
  repeat (first | refine c_seq ?_ | (refine x_region (id := 14) none [(0, .n), (1, .n), (2, .n), (3, .n), (4, .q), (6, .n), (7, .n), (8, .n), (9, .n), (10, .q), (5, .e), (11, .e), (12, .n)] _ mixed (by kernel_rfl) (List.Sublist.refl _) ?_; refine xn rfl qm ?_; refine xn rfl qn ?_; refine xn rfl qf ?_; refine xn rfl qia ?_; refine xq rfl ql ?_; refine xn rfl qm ?_; refine xn rfl qn ?_; refine xn rfl qf ?_; refine xn rfl qia ?_; refine xq rfl ql ?_; refine x_e rfl ?_; refine ecp rfl rfl (fun w hC hm hL => by first | exact gener_c gl5 gd half ((half - 2) * 64) h1 hk1.nt _ false w (hL.sub (by (repeat (first | exact List.nil_sublist _ | exact List.Sublist.slnil | apply List.Sublist.cons_cons | exact List.Sublist.refl _ | apply List.Sublist.cons)))) | exact gener_c gl2 gd 0 ((half - 2) * 64) h0 hk0.nt _ false w (hL.sub (by (repeat (first | exact List.nil_sublist _ | exact List.Sublist.slnil | apply List.Sublist.cons_cons | exact List.Sublist.refl _ | apply List.Sublist.cons))))) ?_; intro m' hm'; refine xk ?_; refine x_e rfl ?_; refine ecp rfl rfl (fun w hC hm hL => by first | exact gener_c gl5 gd half ((half - 2) * 64) h1 hk1.nt _ false w (hL.sub (by (repeat (first | exact List.nil_sublist _ | exact List.Sublist.slnil | apply List.Sublist.cons_cons | exact List.Sublist.refl _ | apply List.Sublist.cons)))) | exact gener_c gl2 gd 0 ((half - 2) * 64) h0 hk0.nt _ false w (hL.sub (by (repeat (first | exact List.nil_sublist _ | exact List.Sublist.slnil | apply List.Sublist.cons_cons | exact List.Sublist.refl _ | apply List.Sublist.cons))))) ?_; intro m' hm'; refine xk ?_; refine xn rfl (by first | exact dgtrt | exact dgtrf) ?_; refine x_nil ?_) | (refine c_region (id := 16) ?_; refine sq qm ?_; refine sq qa ?_; refine sq qa ?_; refine l_nil ?_) | refine n_then ?_ | refine c_block ?_ | refine c_skip ?_ | refine n_block ?_ | refine c_exit ?_ | refine n_then_exit ?_ | refine n_block_eq ?_ | refine n_block_ne rfl ?_ | refine c_ret ?_ | refine n_then_ret ?_ | refine n_block_ret ?_ | refine c_cond_t rfl ?_ | refine c_cond_f rfl ?_ | refine r_succ ?_ )
  refine fgs (A := StL mb false gl2 bl2 cl2 h0 bs0 0 gl5 bl5 cl5 h1 bs1 half ((half - 2) * 64) gd) (by (repeat (first | exact Sp.nil | (apply Sp.cons; focus (repeat (first | exact Rm.here | apply Rm.there)))))) ?_
  (first | apply r_ret (mb, (gl2, bl2, cl2), (gl5, bl5, cl5)) | apply r_end (mb, (gl2, bl2, cl2), (gl5, bl5, cl5))); exact rfl; exact rfl; exact (.tmp rfl (.tmp rfl .nil)); exact rfl; exact (List.Sublist.refl _); exact (new_blk (.inr (by omega)) (new_sl (bk_new hz2 hb2) (new_blk (.inr hq2) (new_sl (bk_new hz5 hb5) (new_blk (.inr hq5) new_nil))))); exact ⟨by assumption, by assumption⟩
set_option maxRecDepth 100000 in
set_option maxHeartbeats 4000000 in
theorem sopen_1 (gd gw gm : Nat) (D : Dk) (hgo : D.gone = false) (hn6 : D.secs.length ≤ 16384) (hrg : RG D) (n6 : 6 ≤ D.secs.length) (half : Nat) (hhf : half = D.secs.length / 2) (h0 h1 : Hd) (bs0 bs1 : List Int) (hl0 : LogAt D 0 half h0 bs0) (hl1 : LogAt D half half h1 bs1) (hk0 : HdK h0) (hk1 : HdK h1) (hge : genH h0 < genH h1) (w : World) (hD : Has (DskL gd gw gm D) w) :
    CA Tryz.prog 8 [.pointer (some ⟨gd, 0, none⟩)] w (Ret (fun z : Nat × (Nat × Option Addr × Nat) × (Nat × Option Addr × Nat) => .tuple #[.pointer (some ⟨z.1, 0, none⟩), .int .i64 0]) [] (fun z => StL z.1 true z.2.1.1 z.2.1.2.1 z.2.1.2.2 h1 bs1 half z.2.2.1 z.2.2.2.1 z.2.2.2.2 h0 bs0 0 ((half - 2) * 64) gd) (fun z => BK z.2.1.2.1 z.2.1.2.2 bs1.length ∧ BK z.2.2.2.1 z.2.2.2.2 bs0.length) w) := by
  refine enter (L := DskL gd gw gm D) (X := []) Tryz.func8 rfl Tryz.ntmps8 rfl rfl hD ?_
  repeat (first | refine c_seq ?_ | (refine c_region (id := 0) ?_; refine sq qa ?_; refine sq qa ?_; refine l_nil ?_) | (refine c_region (id := 1) ?_; refine sq qm ?_; refine se ?_; refine ecp rfl rfl (fun w hC hm hL => by exact sect_c gd gw gm D w (hL.sub (by (repeat (first | exact List.nil_sublist _ | exact List.Sublist.slnil | apply List.Sublist.cons_cons | exact List.Sublist.refl _ | apply List.Sublist.cons))))) ?_; intro m' hm'; refine sq (by first | exact dlsst | exact dlssf) ?_; refine l_nil ?_) | refine n_then ?_ | refine c_block ?_ | refine c_skip ?_ | refine n_block ?_ | refine c_exit ?_ | refine n_then_exit ?_ | refine n_block_eq ?_ | refine n_block_ne rfl ?_ | refine c_ret ?_ | refine n_then_ret ?_ | refine n_block_ret ?_ | refine c_cond_t rfl ?_ | refine c_cond_f rfl ?_ | refine r_succ ?_ )
  repeat (first | refine c_seq ?_ | (refine c_region (id := 3) ?_; refine sq qbs ?_; refine se ?_; refine eb ?_; refine sq qa ?_; refine l_nil ?_) | refine n_then ?_ | refine c_block ?_ | refine c_skip ?_ | refine n_block ?_ | refine c_exit ?_ | refine n_then_exit ?_ | refine n_block_eq ?_ | refine n_block_ne rfl ?_ | refine c_ret ?_ | refine n_then_ret ?_ | refine n_block_ret ?_ | refine c_cond_t rfl ?_ | refine c_cond_f rfl ?_ | refine r_succ ?_ )
  obtain ⟨mb, hmb⟩ : ∃ mb, mb = m' := ⟨_, rfl⟩
  rw [← hmb]
  repeat (first | refine c_rounds 3 ?_ | refine c_seq ?_ | (refine c_region (id := 4) ?_; refine sq qm ?_; refine se ?_; refine ecp rfl rfl (fun w hC hm hL => by exact sect_c gd gw gm D w (hL.sub (by (repeat (first | exact List.nil_sublist _ | exact List.Sublist.slnil | apply List.Sublist.cons_cons | exact List.Sublist.refl _ | apply List.Sublist.cons))))) ?_; intro m' hm'; refine sq (by exact Qt.cast (v' := .int .i64 ((half : Nat) : Int)) (congrArg (Value.int .i64) (by omega)) (q_quo rfl rfl (by omega) (by omega) (by first | rfl | (simp only [IntKind.wrap_i64]; omega)))) ?_; refine sq qa ?_; refine l_nil ?_) | (refine c_region (id := 5) ?_; refine sq qm ?_; refine l_nil ?_) | (refine c_region (id := 6) ?_; refine sq (by first | exact dlsst | exact dlssf) ?_; refine l_nil ?_) | (refine c_region (id := 7) ?_; refine sq qm ?_; refine sq qa ?_; refine l_nil ?_) | (refine c_region (id := 8) ?_; refine sq qm ?_; refine sq qm ?_; refine sq qm ?_; refine sq (by first | exact Qt.cast (v' := .int .i64 ((0 : Nat) : Int)) (congrArg (Value.int .i64) (by omega)) (q_mul64 rfl rfl ⟨by omega, by omega⟩ rfl) | exact Qt.cast (v' := .int .i64 ((half : Nat) : Int)) (congrArg (Value.int .i64) (by omega)) (q_mul64 rfl rfl ⟨by omega, by omega⟩ rfl)) ?_; refine sq qm ?_; refine se ?_; (first | (refine ecl rfl rfl (fun w hC hm hL => by exact open_c gd gw gm 0 half ⟨by omega, by omega⟩ (fun i => D.at (0 + i)) D hgo hn6 (by omega) (fun i hi => Dk.at_get (by omega)) (fun i _ => hrg.s _) bs0.length (by rw [hl0.st]; exact hl0.cnt) w (hL.sub (by (repeat (first | exact List.nil_sublist _ | exact List.Sublist.slnil | apply List.Sublist.cons_cons | exact List.Sublist.refl _ | apply List.Sublist.cons))))) ?_; intro z2 m2 hz2 hn2 hm2; obtain ⟨gl2, bl2, cl2⟩ := z2; have hq2 : w.heap.size ≤ gl2 := (by have := hn2 gl2 (by simp [feet, Chunk.foot]); omega); have hb2 : ∀ g, bl2 = some ⟨g, 0, none⟩ → w.heap.size ≤ g := (fun g e => by have := hn2 g (by simp [feet, Chunk.foot, e]); omega); dsimp only at hz2 ⊢; rw [hl0.st, hl0.bytes]) | (refine ecl rfl rfl (fun w hC hm hL => by exact open_c gd gw gm half half ⟨by omega, by omega⟩ (fun i => D.at (half + i)) D hgo hn6 (by omega) (fun i hi => Dk.at_get (by omega)) (fun i _ => hrg.s _) bs1.length (by rw [hl1.st]; exact hl1.cnt) w (hL.sub (by (repeat (first | exact List.nil_sublist _ | exact List.Sublist.slnil | apply List.Sublist.cons_cons | exact List.Sublist.refl _ | apply List.Sublist.cons))))) ?_; intro z5 m5 hz5 hn5 hm5; obtain ⟨gl5, bl5, cl5⟩ := z5; have hq5 : w.heap.size ≤ gl5 := (by have := hn5 gl5 (by simp [feet, Chunk.foot]); omega); have hb5 : ∀ g, bl5 = some ⟨g, 0, none⟩ → w.heap.size ≤ g := (fun g e => by have := hn5 g (by simp [feet, Chunk.foot, e]); omega); dsimp only at hz5 ⊢; rw [hl1.st, hl1.bytes])); refine sq qm ?_; refine sq qe ?_; refine sq qe ?_; refine sq qa ?_; refine sq qa ?_; refine l_nil ?_) | (refine c_region (id := 9) ?_; refine sq qm ?_; refine se ?_; refine ecp rfl rfl (fun w hC hm hL => by exact failed_ok _ w) ?_; intro m' hm'; refine sq qa ?_; refine l_nil ?_) | (refine c_region (id := 10) ?_; refine sq qm ?_; refine sq (by exact q_neq_nn (hx := rfl)) ?_; refine l_nil ?_) | (refine c_region (id := 12) ?_; refine sq qm ?_; refine sq qm ?_; refine sq qm ?_; refine sq qn ?_; refine sq qf ?_; refine sq qia ?_; refine se ?_; refine es1 ?_ (hg := .inr (by omega)); refine l_nil ?_) | (refine c_region (id := 13) ?_; refine sq qadd64 ?_; refine sq qm ?_; refine l_nil ?_) | refine n_then ?_ | refine c_block ?_ | refine c_skip ?_ | refine n_block ?_ | refine c_exit ?_ | refine n_then_exit ?_ | refine n_block_eq ?_ | refine n_block_ne rfl ?_ | refine c_ret ?_ | refine n_then_ret ?_ | refine n_block_ret ?_ | refine c_cond_t rfl ?_ | refine c_cond_f rfl ?_ | refine r_succ ?_ )
  repeat (first | refine c_seq ?_ | (refine x_region (id := 14) none [(0, .n), (1, .n), (2, .n), (3, .n), (4, .q), (6, .n), (7, .n), (8, .n), (9, .n), (10, .q), (5, .e), (11, .e), (12, .n)] _ mixed (by kernel_rfl) (List.Sublist.refl _) ?_; refine xn rfl qm ?_; refine xn rfl qn ?_; refine xn rfl qf ?_; refine xn rfl qia ?_; refine xq rfl ql ?_; refine xn rfl qm ?_; refine xn rfl qn ?_; refine xn rfl qf ?_; refine xn rfl qia ?_; refine xq rfl ql ?_; refine x_e rfl ?_; refine ecp rfl rfl (fun w hC hm hL => by first | exact gener_c gl5 gd half ((half - 2) * 64) h1 hk1.nt _ false w (hL.sub (by (repeat (first | exact List.nil_sublist _ | exact List.Sublist.slnil | apply List.Sublist.cons_cons | exact List.Sublist.refl _ | apply List.Sublist.cons)))) | exact gener_c gl2 gd 0 ((half - 2) * 64) h0 hk0.nt _ false w (hL.sub (by (repeat (first | exact List.nil_sublist _ | exact List.Sublist.slnil | apply List.Sublist.cons_cons | exact List.Sublist.refl _ | apply List.Sublist.cons))))) ?_; intro m' hm'; refine xk ?_; refine x_e rfl ?_; refine ecp rfl rfl (fun w hC hm hL => by first | exact gener_c gl5 gd half ((half - 2) * 64) h1 hk1.nt _ false w (hL.sub (by (repeat (first | exact List.nil_sublist _ | exact List.Sublist.slnil | apply List.Sublist.cons_cons | exact List.Sublist.refl _ | apply List.Sublist.cons)))) | exact gener_c gl2 gd 0 ((half - 2) * 64) h0 hk0.nt _ false w (hL.sub (by (repeat (first | exact List.nil_sublist _ | exact List.Sublist.slnil | apply List.Sublist.cons_cons | exact List.Sublist.refl _ | apply List.Sublist.cons))))) ?_; intro m' hm'; refine xk ?_; refine xn rfl (by first | exact dgtrt | exact dgtrf) ?_; refine x_nil ?_) | (refine c_region (id := 15) ?_; refine sq qm ?_; refine sq qn ?_; refine sq qf ?_; refine se ?_; refine es1 ?_ (hg := .inr (by omega)); refine l_nil ?_) | (refine c_region (id := 16) ?_; refine sq qm ?_; refine sq qa ?_; refine sq qa ?_; refine l_nil ?_) | refine n_then ?_ | refine c_block ?_ | refine c_skip ?_ | refine n_block ?_ | refine c_exit ?_ | refine n_then_exit ?_ | refine n_block_eq ?_ | refine n_block_ne rfl ?_ | refine c_ret ?_ | refine n_then_ret ?_ | refine n_block_ret ?_ | refine c_cond_t rfl ?_ | refine c_cond_f rfl ?_ | refine r_succ ?_ )
  refine fgs (A := StL mb true gl5 bl5 cl5 h1 bs1 half gl2 bl2 cl2 h0 bs0 0 ((half - 2) * 64) gd) (by (repeat (first | exact Sp.nil | (apply Sp.cons; focus (repeat (first | exact Rm.here | apply Rm.there)))))) ?_
  (first | apply r_ret (mb, (gl5, bl5, cl5), (gl2, bl2, cl2)) | apply r_end (mb, (gl5, bl5, cl5), (gl2, bl2, cl2))); exact rfl; exact rfl; exact (.tmp rfl (.tmp rfl .nil)); exact rfl; exact (List.Sublist.refl _); exact (new_blk (.inr (by omega)) (new_sl (bk_new hz5 hb5) (new_blk (.inr hq5) (new_sl (bk_new hz2 hb2) (new_blk (.inr hq2) new_nil))))); exact ⟨by assumption, by assumption⟩
end Go.Proofs.YtgmghkakiocmjaaGreatDoor
namespace Go.Proofs.YtgmghkakiocmjaaGreatDoor
open Go Go.RowKit
set_option linter.unusedVariables false
set_option linter.unusedSimpArgs false
structure CPrt where
  a : Option Addr
  len : Nat
  cap : Nat
  xs : List Int
def CPrt.v (p : CPrt) : Value := .slice p.a p.len p.cap
structure CPrt.Ok (w : World) (p : CPrt) : Prop where
  s : SlE (Value.int .u8) w p.a p.xs
  l : p.xs.length = p.len
  c : p.len ≤ p.cap
  r : ∀ x ∈ p.xs, 0 ≤ x ∧ x ≤ 255
theorem CPrt.Ok.lt {w : World} {p : CPrt} (h : p.Ok w) : ∀ g o, p.a = some ⟨g, o, none⟩ → 0 < p.len → g < w.heap.size := fun g o e hl => h.s.lt g o e (by rw [h.l]; exact hl)
def joined (ps : List CPrt) : List Int := ps.flatMap (·.xs)
theorem joined_succ {ps : List CPrt} {i : Nat} {p : CPrt} (h : ps[i]? = some p) : joined (ps.take (i + 1)) = joined (ps.take i) ++ p.xs := by
  unfold joined
  rw [List.take_add_one, h]
  simp
theorem appR_OK {fr p nd : Nat} {h' : Hd} {bs ys : List Int} {D : Dk} (hok : D.OK nd) (hp : p < 2) (h : fr + 2 + ((bs ++ ys).length + 63) / 64 ≤ nd) : (appR fr p h' bs ys D).2.OK nd := by
  have key : ∀ D2 : Dk, D2.OK nd → (wrAll [(fr + p, secH h')] D2).2.OK nd := fun D2 h2 => wrAll_OK _ _ (fun e he => by simp only [List.mem_singleton] at he; subst he; dsimp only; omega) h2
  have hw : (wrAll (rmW fr (bs ++ ys) (((bs ++ ys).length + 63) / 64 - bs.length / 64) (bs.length / 64)) D).2.OK nd := wrAll_OK _ _ (fun e he => by have h1 := rmW_lt _ _ e he; have h2 : (bs ++ ys).length = bs.length + ys.length := List.length_append; omega) hok
  unfold appR
  split
  · exact key D hok
  · split
    · exact key _ hw
    · exact hw
structure GJ (n : Int) (ps : List CPrt) (i : Nat) (D : Dk) (h : Hd) : Prop where
  ok : D.OK 40
  fre : D.Free
  rg : RG D
  lat : LogAt D 2 30 h (joined (ps.take i))
  K : HdK h
  ser : h.ser = i
  nt : ∀ k : Nat, i = k + 1 → h.nt = noteF ((n + (k : Int) % 256) % 256)
  len : (joined (ps.take i)).length ≤ 60 * i
  rng : ∀ x ∈ (joined (ps.take i)), 0 ≤ x ∧ x ≤ 255
theorem GJ.zero (n : Int) (ps : List CPrt) : GJ n ps 0 (Dk.new 40) hdZ :=
  ⟨Dk.OK.new 40 (by decide), ⟨rfl, rfl⟩, RG.new 40, LogAt.new 40 2 30, hdZ_K, rfl, fun k h => by omega, by simp [joined], by simp [joined]⟩
theorem GJ.next {n : Int} {ps : List CPrt} {i : Nat} {D : Dk} {h : Hd} (hJ : GJ n ps i D h) (hi : i < 20) {p : CPrt} (hp : ps[i]? = some p) (hl : p.xs.length ≤ 60) (hr : ∀ x ∈ p.xs, 0 ≤ x ∧ x ≤ 255) (pp : Nat) (h1 : Hd) (hh1 : h1 = ⟨(i : Int) + 1, ((joined (ps.take i)) ++ p.xs).length, noteF ((n + (i : Int) % 256) % 256)⟩) (hpp : (pp : Int) = h1.ser % 2) : (appR 2 pp h1 (joined (ps.take i)) p.xs D).1 = true ∧ GJ n ps (i + 1) (appR 2 pp h1 (joined (ps.take i)) p.xs D).2 h1 := by
  have hlen := hJ.len
  have hser := hJ.ser
  have hal : ((joined (ps.take i)) ++ p.xs).length = (joined (ps.take i)).length + p.xs.length := List.length_append
  have hK : HdK h1 := by
    rw [hh1]
    exact ⟨⟨by dsimp only; omega, by dsimp only; omega⟩, ⟨by dsimp only; omega, by dsimp only; omega⟩, noteF_K ⟨by omega, by omega⟩, noteF_hi _⟩
  have hrr : ∀ x ∈ (joined (ps.take i)) ++ p.xs, 0 ≤ x ∧ x ≤ 255 := fun x hx => (List.mem_append.1 hx).elim (hJ.rng x) (hr x)
  obtain ⟨k1, k2, k3, k4, k5, k6, k7⟩ := hJ.lat.append (h' := h1) (ys := p.xs) (by rw [hJ.ok.len]; decide) (by omega) hJ.fre hJ.rg hK (by rw [hh1]; dsimp only; omega) (by omega) (by rw [hh1]) (by omega) hrr pp hpp
  have hnx : ∀ k : Nat, i + 1 = k + 1 → h1.nt = noteF ((n + (k : Int) % 256) % 256) := fun k hk => by
    have e : i = k := by omega
    subst e
    rw [hh1]
  refine ⟨k1, appR_OK hJ.ok (by omega) (by omega), k3, k4, by rw [joined_succ hp]; exact k2, hK, by rw [hh1]; dsimp only; omega, fun k hk => hnx k hk, by rw [joined_succ hp, hal]; omega, by rw [joined_succ hp]; exact hrr⟩
end Go.Proofs.YtgmghkakiocmjaaGreatDoor
namespace Go.Proofs.YtgmghkakiocmjaaGreatDoor
open Go Go.RowKit
set_option linter.unusedVariables false
set_option linter.unusedSimpArgs false
def rOk (room p : Nat) (F : Nat → Int) : Prop := hdS F ∧ (hdOf F).ser % 2 = p ∧ (hdOf F).cnt ≤ room
instance (room p : Nat) (F : Nat → Int) : Decidable (rOk room p F) := by unfold rOk; infer_instance
end Go.Proofs.YtgmghkakiocmjaaGreatDoor
namespace Go.Proofs.YtgmghkakiocmjaaGreatDoor
open Go Go.RowKit
set_option linter.unusedVariables false
set_option linter.unusedSimpArgs false
structure SecP (Fs : Nat → Nat → Int) (ps : List CPrt) : Prop where
  h : ∀ i p, ps[i]? = some p → p.xs = secL (Fs i) 64 ∧ p.len = 64 ∧ 64 ≤ p.cap ∧ p.cap ≤ 9223372036854775807 ∧ ∃ g o, p.a = some ⟨g, o, none⟩
def secC (ps : List CPrt) : List Chunk := ps.map fun p => .sl p.a p.cap 5 1 (p.xs.map (Value.int .u8))
theorem secC_succ (ps : List CPrt) (p : CPrt) : secC (ps ++ [p]) = secC ps ++ [.sl p.a p.cap 5 1 (p.xs.map (Value.int .u8))] := by simp [secC]
theorem SecP.take {Fs : Nat → Nat → Int} {ps : List CPrt} (h : SecP Fs ps) (n : Nat) : SecP Fs (ps.take n) := ⟨fun i p hp => by
  rw [List.getElem?_take] at hp
  split at hp
  · exact h.h i p hp
  · cases hp⟩
end Go.Proofs.YtgmghkakiocmjaaGreatDoor
namespace Go.Proofs.YtgmghkakiocmjaaGreatDoor
open Go Go.RowKit
set_option linter.unusedVariables false
set_option linter.unusedSimpArgs false
set_option maxRecDepth 100000 in
set_option maxHeartbeats 4000000 in
theorem bclone_c (a : Option Addr) (len cap : Nat) (xs : List Int) (hxl : xs.length = len) (hbig : len ≤ 100000000) (w : World) (hs : SlE (Value.int .u8) w a xs) :
    CA Tryz.prog 59 [.slice a len cap] w (RLe (Value.int .u8) 5 (fun zs => zs = xs) w) := by
  rcases a with _ | p
  · have hx0 : xs = [] := by
      rcases hs.h with h9 | ⟨g, o, e, _⟩
      · exact h9
      · cases e
    refine enter (L := []) (X := []) Tryz.func59 rfl Tryz.ntmps59 rfl rfl (Has.nil _) ?_
    repeat (first | refine c_seq ?_ | (refine c_region (id := 0) ?_; refine sq qa ?_; refine l_nil ?_) | (refine c_region (id := 1) ?_; refine sq qm ?_; refine sq (by exact q_eql_nil rfl rfl) ?_; refine l_nil ?_) | (refine c_region (id := 2) ?_; refine sq qa ?_; refine l_nil ?_) | refine n_then ?_ | refine c_block ?_ | refine c_skip ?_ | refine n_block ?_ | refine c_exit ?_ | refine n_then_exit ?_ | refine n_block_eq ?_ | refine n_block_ne rfl ?_ | refine c_ret ?_ | refine n_then_ret ?_ | refine n_block_ret ?_ | refine c_cond_t rfl ?_ | refine c_cond_f rfl ?_ | refine r_succ ?_ )
    refine add_nil 5 1 ?_
    (first | apply r_ret (none, 0, []) | apply r_end (none, 0, [])); exact rfl; exact rfl; exact (.tmp rfl .nil); exact rfl; exact (by exact (by (repeat (first | exact List.nil_sublist _ | exact List.Sublist.slnil | apply List.Sublist.cons_cons | exact List.Sublist.refl _ | apply List.Sublist.cons)))); exact (new_sl (OS.nil [] w.heap.size).newc new_nil); exact ⟨by simp, hx0.symm⟩
  · refine enter (L := []) (X := []) Tryz.func59 rfl Tryz.ntmps59 rfl rfl (Has.nil _) ?_
    repeat (first | refine c_seq ?_ | (refine c_region (id := 0) ?_; refine sq qa ?_; refine l_nil ?_) | (refine c_region (id := 1) ?_; refine sq qm ?_; refine sq (by exact q_eql_nil rfl rfl) ?_; refine l_nil ?_) | (refine c_region (id := 3) ?_; refine se ?_; refine e_buildSlice0 rfl ?_; refine sq qm ?_; refine se ?_; refine e_appL (Value.int .u8) [] xs rfl rfl rfl (by (repeat (first | exact Rm.here | apply Rm.there))) hs.rdN rfl hxl ⟨Nat.le_refl _, by omega, .inr ⟨_, rfl⟩, by simp [Chunk.foot]⟩ (allOne_u8c _) (by omega) (by omega) ?_; intro b1 cap1 m1 ho1 hm1; refine sq qa ?_; refine l_nil ?_) | refine n_then ?_ | refine c_block ?_ | refine c_skip ?_ | refine n_block ?_ | refine c_exit ?_ | refine n_then_exit ?_ | refine n_block_eq ?_ | refine n_block_ne rfl ?_ | refine c_ret ?_ | refine n_then_ret ?_ | refine n_block_ret ?_ | refine c_cond_t rfl ?_ | refine c_cond_f rfl ?_ | refine r_succ ?_ )
    rw [Nat.zero_add, ← hxl] at ho1 ⊢
    (first | apply r_ret (b1, cap1, xs) | apply r_end (b1, cap1, xs)); exact rfl; exact rfl; exact (.tmp rfl .nil); exact rfl; exact (by exact (by (repeat (first | exact List.nil_sublist _ | exact List.Sublist.slnil | apply List.Sublist.cons_cons | exact List.Sublist.refl _ | apply List.Sublist.cons)))); exact (new_sl ho1.newc new_nil); exact ⟨by have h9 := ho1.ret; exact h9, rfl⟩
end Go.Proofs.YtgmghkakiocmjaaGreatDoor
namespace Go.Proofs.YtgmghkakiocmjaaGreatDoor
open Go Go.RowKit
set_option linter.unusedVariables false
set_option linter.unusedSimpArgs false
structure Prt where
  a : Option Addr
  len : Nat
  cap : Nat
  xs : List Int
def Prt.v (p : Prt) : Value := .slice p.a p.len p.cap
structure Prt.Ok (w : World) (p : Prt) : Prop where
  s : SlE (Value.int .u8) w p.a p.xs
  l : p.xs.length = p.len
  c : p.len ≤ p.cap
  r : ∀ x ∈ p.xs, 0 ≤ x ∧ x ≤ 255
theorem Prt.Ok.ch {w w' : World} {p : Prt} (h : p.Ok w) (hC : Ch [] w w') : p.Ok w' := ⟨h.s.ch0 hC, h.l, h.c, h.r⟩
set_option maxRecDepth 100000 in
set_option maxHeartbeats 4000000 in
theorem grow0_c (k : Nat) (hk : k ≤ 100000000) (w : World) :
    CA Tryz.prog 101 [.slice none 0 0, .int .i64 (k : Int)] w (RLe (Value.int .u8) 5 (fun zs => zs = []) w) := by
  by_cases h0 : 0 < k
  · refine enter (L := []) (X := []) Tryz.func101 rfl Tryz.ntmps101 rfl rfl (Has.nil _) ?_
    repeat (first | refine c_seq ?_ | (refine c_region (id := 0) ?_; refine sq qa ?_; refine l_nil ?_) | (refine c_region (id := 1) ?_; refine sq qm ?_; refine sq (by first | exact dlsst | exact dlssf) ?_; refine l_nil ?_) | (refine c_region (id := 3) ?_; refine sq qm ?_; refine sq qm ?_; refine sq (by exact q_cap_sl rfl) ?_; refine sq qm ?_; refine sq qls ?_; refine sq qsub64 ?_; refine sq (by exact Qt.cast (v' := .int .i64 ((k : Nat) : Int)) (congrArg (Value.int .i64) (by omega)) (q_sub64 rfl rfl ⟨by omega, by omega⟩ rfl)) ?_; refine sq qa ?_; refine l_nil ?_) | (refine c_region (id := 4) ?_; refine sq qm ?_; refine sq (by first | exact dgtrt | exact dgtrf) ?_; refine l_nil ?_) | refine n_then ?_ | refine c_block ?_ | refine c_skip ?_ | refine n_block ?_ | refine c_exit ?_ | refine n_then_exit ?_ | refine n_block_eq ?_ | refine n_block_ne rfl ?_ | refine c_ret ?_ | refine n_then_ret ?_ | refine n_block_ret ?_ | refine c_cond_t rfl ?_ | refine c_cond_f rfl ?_ | refine r_succ ?_ )
    repeat (first | refine c_seq ?_ | (refine c_region (id := 5) ?_; refine sq qm ?_; refine sq qm ?_; refine sq (by exact q_cap_sl rfl) ?_; refine sq qs ?_; refine sq qm ?_; refine se ?_; refine e_appZ rfl rfl rfl h0 (by omega) (by omega) ?_; intro cap1 hc1 hc2; refine sq qm ?_; refine sq qls ?_; refine sq qs ?_; refine sq qa ?_; refine l_nil ?_) | (refine c_region (id := 6) ?_; refine sq qm ?_; refine sq qa ?_; refine l_nil ?_) | refine n_then ?_ | refine c_block ?_ | refine c_skip ?_ | refine n_block ?_ | refine c_exit ?_ | refine n_then_exit ?_ | refine n_block_eq ?_ | refine n_block_ne rfl ?_ | refine c_ret ?_ | refine n_then_ret ?_ | refine n_block_ret ?_ | refine c_cond_t rfl ?_ | refine c_cond_f rfl ?_ | refine r_succ ?_ )
    (first | apply r_ret (some ⟨w.heap.size, 0, none⟩, cap1, []) | apply r_end (some ⟨w.heap.size, 0, none⟩, cap1, [])); exact rfl; exact rfl; exact (.tmp rfl .nil); exact (by simp [vval]); exact (by exact (by (repeat (first | exact List.nil_sublist _ | exact List.Sublist.slnil | apply List.Sublist.cons_cons | exact List.Sublist.refl _ | apply List.Sublist.cons)))); exact (new_sl (by simp [Chunk.foot]) new_nil); exact ⟨⟨by simp, hc2, .inr ⟨_, rfl⟩⟩, rfl⟩
  · obtain rfl : k = 0 := by omega
    refine enter (L := []) (X := []) Tryz.func101 rfl Tryz.ntmps101 rfl rfl (Has.nil _) ?_
    repeat (first | refine c_seq ?_ | (refine c_region (id := 0) ?_; refine sq qa ?_; refine l_nil ?_) | (refine c_region (id := 1) ?_; refine sq qm ?_; refine sq (by first | exact dlsst | exact dlssf) ?_; refine l_nil ?_) | (refine c_region (id := 3) ?_; refine sq qm ?_; refine sq qm ?_; refine sq (by exact q_cap_sl rfl) ?_; refine sq qm ?_; refine sq qls ?_; refine sq qsub64 ?_; refine sq qsub64 ?_; refine sq qa ?_; refine l_nil ?_) | (refine c_region (id := 4) ?_; refine sq qm ?_; refine sq (by first | exact dgtrt | exact dgtrf) ?_; refine l_nil ?_) | (refine c_region (id := 6) ?_; refine sq qm ?_; refine sq qa ?_; refine l_nil ?_) | refine n_then ?_ | refine c_block ?_ | refine c_skip ?_ | refine n_block ?_ | refine c_exit ?_ | refine n_then_exit ?_ | refine n_block_eq ?_ | refine n_block_ne rfl ?_ | refine c_ret ?_ | refine n_then_ret ?_ | refine n_block_ret ?_ | refine c_cond_t rfl ?_ | refine c_cond_f rfl ?_ | refine r_succ ?_ )
    refine add_nil 5 1 ?_
    (first | apply r_ret (none, 0, []) | apply r_end (none, 0, [])); exact rfl; exact rfl; exact (.tmp rfl .nil); exact rfl; exact (by exact (by (repeat (first | exact List.nil_sublist _ | exact List.Sublist.slnil | apply List.Sublist.cons_cons | exact List.Sublist.refl _ | apply List.Sublist.cons)))); exact (new_sl (OS.nil [] w.heap.size).newc new_nil); exact ⟨by simp, rfl⟩
def jn (ps : List Prt) : List Int := ps.flatMap (·.xs)
theorem jn_take {ps : List Prt} {i : Nat} {p : Prt} (h : ps[i]? = some p) : jn (ps.take (i + 1)) = jn (ps.take i) ++ p.xs := by
  unfold jn; rw [List.take_add_one, h]; simp
theorem jn_le (ps : List Prt) (i : Nat) : (jn (ps.take i)).length ≤ (jn ps).length := by
  have : jn ps = jn (ps.take i) ++ jn (ps.drop i) := by unfold jn; rw [← List.flatMap_append, List.take_append_drop]
  rw [this, List.length_append]; omega
set_option maxRecDepth 100000 in
set_option maxHeartbeats 4000000 in
theorem concat_c (ps : List Prt) (ap : Option Addr) (cp0 : Nat) (hn : ps.length ≤ 1000) (hbig : (jn ps).length ≤ 10000000) (w : World) (hps : ∀ p ∈ ps, p.Ok w) (hO : SlE Prt.v w ap ps) :
    CA Tryz.prog 99 [.slice ap ps.length cp0] w (RLe (Value.int .u8) 5 (fun zs => zs = jn ps) w) := by
  refine enter (L := []) (X := []) Tryz.func99 rfl Tryz.ntmps99 rfl rfl (Has.nil _) ?_
  repeat (first | refine c_seq ?_ | (refine c_region (id := 0) ?_; refine sq qa ?_; refine l_nil ?_) | (refine c_region (id := 1) ?_; refine sq qa ?_; refine l_nil ?_) | (refine c_region (id := 2) ?_; refine sq qm ?_; refine sq qls ?_; refine sq qm ?_; refine l_nil ?_) | refine n_then ?_ | refine c_block ?_ | refine c_skip ?_ | refine n_block ?_ | refine c_exit ?_ | refine n_then_exit ?_ | refine n_block_eq ?_ | refine n_block_ne rfl ?_ | refine c_ret ?_ | refine n_then_ret ?_ | refine n_block_ret ?_ | refine c_cond_t rfl ?_ | refine c_cond_f rfl ?_ | refine r_succ ?_ )
  refine c_loop (γ := Nat) (fun z => [(11, .int .i64 ((z : Nat) : Int)), (10, .int .i64 ((ps.length : Nat) : Int)), (9, .slice ap ps.length cp0), (3, .int .i64 (((jn (ps.take z)).length : Nat) : Int)), (0, .slice ap ps.length cp0)]) (fun _ => w.heap.size) (fun _ => []) (fun z => z ≤ ps.length) (fun z => ps.length - z) 0 (by omega) ⟨rfl, rfl, rfl, rfl, rfl, trivial⟩ rfl (by (repeat (first | exact List.nil_sublist _ | exact List.Sublist.slnil | apply List.Sublist.cons_cons | exact List.Sublist.refl _ | apply List.Sublist.cons))) ?_
  intro i hi
  have hi' : i ≤ ps.length := hi
  have hle := jn_le ps i
  by_cases h1 : i < ps.length
  · obtain ⟨p, hpi⟩ : ∃ p, ps[i]? = some p := ⟨_, List.getElem?_eq_getElem h1⟩
    have hp := hps p (List.mem_of_getElem? hpi)
    obtain ⟨g, o, rfl, hOk⟩ := hO.get h1
    have hz : nth (ps.map Prt.v) i = some (.slice p.a p.len p.cap) := nth_map hpi
    have hsu := jn_take hpi
    have hsl : (jn (ps.take (i + 1))).length = (jn (ps.take i)).length + p.len := by rw [hsu, List.length_append, hp.l]
    have hle2 := jn_le ps (i + 1)
    obtain ⟨s, hs⟩ : ∃ s, s = (jn (ps.take i)).length := ⟨_, rfl⟩
    rw [← hs] at hsl hle ⊢
    repeat (first | refine c_seq ?_ | (refine c_region (id := 3) ?_; refine sq (by first | exact dlsst | exact dlssf) ?_; refine l_nil ?_) | (refine c_region (id := 4) ?_; refine sq (by exact q_indexAddr_sl (o' := o + i) rfl rfl (by omega) (by omega) (by omega)) ?_; refine sq ql ?_; refine sq qa ?_; refine l_nil ?_) | (refine c_region (id := 5) ?_; refine sq qm ?_; refine sq qm ?_; refine sq qls ?_; refine sq (by exact Qt.cast (v' := .int .i64 ((s + p.len : Nat) : Int)) (congrArg (Value.int .i64) (by omega)) (q_add64 rfl rfl ⟨by omega, by omega⟩ rfl)) ?_; refine sq qa ?_; refine l_nil ?_) | (refine c_region (id := 6) ?_; refine sq qm ?_; refine sq (by first | exact dlsst | exact dlssf) ?_; refine l_nil ?_) | (refine c_region (id := 8) ?_; refine sq (by exact Qt.cast (v' := .int .i64 ((i + 1 : Nat) : Int)) (congrArg (Value.int .i64) (by omega)) (q_add64 rfl rfl ⟨by omega, by omega⟩ rfl)) ?_; refine sq qm ?_; refine l_nil ?_) | refine n_then ?_ | refine c_block ?_ | refine c_skip ?_ | refine n_block ?_ | refine c_exit ?_ | refine n_then_exit ?_ | refine n_block_eq ?_ | refine n_block_ne rfl ?_ | refine c_ret ?_ | refine n_then_ret ?_ | refine n_block_ret ?_ | refine c_cond_t rfl ?_ | refine c_cond_f rfl ?_ | refine r_succ ?_ )
    refine c_round (γ := Nat) (i + 1) ?_ ?_ ?_ ?_ ?_
    · show i + 1 ≤ ps.length; omega
    · show ps.length - (i + 1) < ps.length - i; omega
    · rw [hsl]; exact ⟨rfl, rfl, rfl, rfl, rfl, trivial⟩
    · rfl
    · exact (by (repeat (first | exact List.nil_sublist _ | exact List.Sublist.slnil | apply List.Sublist.cons_cons | exact List.Sublist.refl _ | apply List.Sublist.cons)))
  · obtain rfl : i = ps.length := by omega
    rw [List.take_length]
    repeat (first | refine c_seq ?_ | (refine c_region (id := 3) ?_; refine sq (by first | exact dlsst | exact dlssf) ?_; refine l_nil ?_) | refine n_then ?_ | refine c_block ?_ | refine c_skip ?_ | refine n_block ?_ | refine c_exit ?_ | refine n_then_exit ?_ | refine n_block_eq ?_ | refine n_block_ne rfl ?_ | refine c_ret ?_ | refine n_then_ret ?_ | refine n_block_ret ?_ | refine c_cond_t rfl ?_ | refine c_cond_f rfl ?_ | refine r_succ ?_ )
    repeat (first | refine c_seq ?_ | (refine c_region (id := 9) ?_; refine sq qm ?_; refine se ?_; refine e_callL rfl rfl (by kernel_rfl) rfl (fun w hC hm hL => by exact grow0_c _ (by omega) w) ?_; intro b1 cap1 zs m1 hz1 ho1 hm1; subst hz1; refine sq qa ?_; refine l_nil ?_) | (refine c_region (id := 10) ?_; refine sq qm ?_; refine sq qls ?_; refine sq qm ?_; refine l_nil ?_) | refine n_then ?_ | refine c_block ?_ | refine c_skip ?_ | refine n_block ?_ | refine c_exit ?_ | refine n_then_exit ?_ | refine n_block_eq ?_ | refine n_block_ne rfl ?_ | refine c_ret ?_ | refine n_then_ret ?_ | refine n_block_ret ?_ | refine c_cond_t rfl ?_ | refine c_cond_f rfl ?_ | refine r_succ ?_ )
    refine c_loop (γ := Nat × Option Addr × Nat × Nat) (fun z => [(27, .int .i64 ((z.1 : Nat) : Int)), (26, .int .i64 ((ps.length : Nat) : Int)), (25, .slice ap ps.length cp0), (6, .slice z.2.1 (jn (ps.take z.1)).length z.2.2.1)]) (fun z => z.2.2.2) (fun z => [.sl z.2.1 z.2.2.1 5 1 ((jn (ps.take z.1)).map (Value.int .u8))]) (fun z => z.1 ≤ ps.length ∧ OS [] w.heap.size z.2.1 z.2.2.1 (jn (ps.take z.1)).length ∧ w.heap.size ≤ z.2.2.2) (fun z => ps.length - z.1) ⟨0, b1, cap1, m1⟩ ⟨by simp, ho1, hm1⟩ ⟨rfl, rfl, rfl, rfl, trivial⟩ rfl (by (repeat (first | exact List.nil_sublist _ | exact List.Sublist.slnil | apply List.Sublist.cons_cons | exact List.Sublist.refl _ | apply List.Sublist.cons))) ?_
    rintro ⟨i, b, cap, mm⟩ ⟨hi, ho, hmm⟩
    dsimp only at hi ho hmm ⊢
    have hle := jn_le ps i
    by_cases h2 : i < ps.length
    · obtain ⟨p, hpi⟩ : ∃ p, ps[i]? = some p := ⟨_, List.getElem?_eq_getElem h2⟩
      have hp := hps p (List.mem_of_getElem? hpi)
      obtain ⟨g, o, rfl, hOk⟩ := hO.get h2
      have hz : nth (ps.map Prt.v) i = some (.slice p.a p.len p.cap) := nth_map hpi
      have hsu := jn_take hpi
      have hsl : (jn (ps.take (i + 1))).length = (jn (ps.take i)).length + p.len := by rw [hsu, List.length_append, hp.l]
      have hle2 := jn_le ps (i + 1)
      repeat (first | refine c_seq ?_ | (refine c_region (id := 11) ?_; refine sq (by first | exact dlsst | exact dlssf) ?_; refine l_nil ?_) | (refine c_region (id := 12) ?_; refine sq (by exact q_indexAddr_sl (o' := o + i) rfl rfl (by omega) (by omega) (by omega)) ?_; refine sq ql ?_; refine sq qa ?_; refine l_nil ?_) | (refine c_region (id := 13) ?_; refine sq qm ?_; refine sq qm ?_; refine se ?_; refine e_appE (Value.int .u8) (jn (ps.take i)) p.xs rfl rfl rfl (by (repeat (first | exact Rm.here | apply Rm.there))) hp.s.vw rfl hp.l ho (allOne_u8c _) (by omega) (by omega) ?_; intro b2 cap2 m2 ho2 hm2; refine sq qa ?_; refine l_nil ?_) | (refine c_region (id := 14) ?_; refine sq (by exact Qt.cast (v' := .int .i64 ((i + 1 : Nat) : Int)) (congrArg (Value.int .i64) (by omega)) (q_add64 rfl rfl ⟨by omega, by omega⟩ rfl)) ?_; refine sq qm ?_; refine l_nil ?_) | refine n_then ?_ | refine c_block ?_ | refine c_skip ?_ | refine n_block ?_ | refine c_exit ?_ | refine n_then_exit ?_ | refine n_block_eq ?_ | refine n_block_ne rfl ?_ | refine c_ret ?_ | refine n_then_ret ?_ | refine n_block_ret ?_ | refine c_cond_t rfl ?_ | refine c_cond_f rfl ?_ | refine r_succ ?_ )
      refine c_round ⟨i + 1, b2, cap2, m2⟩ ⟨by dsimp only; omega, by rw [hsl]; exact ho2, by dsimp only; omega⟩ (by dsimp only; omega) (by dsimp only; rw [hsl]; exact ⟨rfl, rfl, rfl, rfl, trivial⟩) (by rfl) (by rw [hsu]; exact (by (repeat (first | exact List.nil_sublist _ | exact List.Sublist.slnil | apply List.Sublist.cons_cons | exact List.Sublist.refl _ | apply List.Sublist.cons))))
    · obtain rfl : i = ps.length := by omega
      rw [List.take_length] at ho ⊢
      repeat (first | refine c_seq ?_ | (refine c_region (id := 11) ?_; refine sq (by first | exact dlsst | exact dlssf) ?_; refine l_nil ?_) | (refine c_region (id := 15) ?_; refine sq qm ?_; refine sq qa ?_; refine l_nil ?_) | refine n_then ?_ | refine c_block ?_ | refine c_skip ?_ | refine n_block ?_ | refine c_exit ?_ | refine n_then_exit ?_ | refine n_block_eq ?_ | refine n_block_ne rfl ?_ | refine c_ret ?_ | refine n_then_ret ?_ | refine n_block_ret ?_ | refine c_cond_t rfl ?_ | refine c_cond_f rfl ?_ | refine r_succ ?_ )
      (first | apply r_ret (b, cap, jn ps) | apply r_end (b, cap, jn ps)); exact rfl; exact rfl; exact (.tmp rfl .nil); exact rfl; exact (by exact (by (repeat (first | exact List.nil_sublist _ | exact List.Sublist.slnil | apply List.Sublist.cons_cons | exact List.Sublist.refl _ | apply List.Sublist.cons)))); exact (new_sl ho.newc new_nil); exact ⟨by have h9 := ho.ret; exact h9, rfl⟩
end Go.Proofs.YtgmghkakiocmjaaGreatDoor
namespace Go.Proofs.YtgmghkakiocmjaaGreatDoor
open Go Go.RowKit
set_option linter.unusedVariables false
set_option linter.unusedSimpArgs false
abbrev OutL (go : Nat) (b : Option Addr) (cap : Nat) (xs : List Int) (lg : Bool) : List Chunk := [.sl b cap 5 1 (xs.map (Value.int .u8)), .blk go (.cells #[.slice b xs.length cap, .bool lg] 98 (0, 0))]
def NotIn (ya : Option Addr) (ys : List Int) (F : List Nat) : Prop := ∀ g o, ya = some ⟨g, o, none⟩ → 0 < ys.length → g ∉ F
theorem OS.any {X Y : List Nat} {k : Nat} {b : Option Addr} {cap len : Nat} (h : OS X k b cap len) : OS Y 0 b cap len := ⟨h.le, h.max, h.ob, fun g hg => .inr (Nat.zero_le _)⟩
def pS (xs : List Int) (lg : Bool) (ys : List Int) : List Int × Bool := if lg = true ∨ 16384 < xs.length + ys.length then (xs, true) else (xs ++ ys, false)
theorem pS_len {xs : List Int} {lg : Bool} {ys : List Int} (h : xs.length ≤ 16384) : (pS xs lg ys).1.length ≤ 16384 := by
  unfold pS
  split
  · exact h
  · rename_i h2
    rw [List.length_append]; omega
theorem pS_bd {xs : List Int} {lg : Bool} {ys : List Int} (h : ∀ x ∈ xs, 0 ≤ x ∧ x ≤ 255) (h2 : ∀ x ∈ ys, 0 ≤ x ∧ x ≤ 255) : ∀ x ∈ (pS xs lg ys).1, 0 ≤ x ∧ x ≤ 255 := by
  unfold pS
  split
  · exact h
  · intro x hx; exact (List.mem_append.1 hx).elim (h x) (h2 x)
set_option maxRecDepth 100000 in
set_option maxHeartbeats 4000000 in
theorem grow_c (go : Nat) (b : Option Addr) (cap : Nat) (xs : List Int) (lg : Bool) (hxb : ∀ x ∈ xs, 0 ≤ x ∧ x ≤ 255) (hxn : xs.length ≤ 16384) (ho : OS [] 0 b cap xs.length) (w : World) (hL0 : Has (OutL go b cap xs lg) w) (ya : Option Addr) (yl yc : Nat) (ys : List Int) (hyl : ys.length = yl) (hyc : yl ≤ yc) (hyb : ∀ x ∈ ys, 0 ≤ x ∧ x ≤ 255) (hyn : yl ≤ 1000000) (hys : SlE (Value.int .u8) w ya ys) (hyg : NotIn ya ys (feet (OutL go b cap xs lg))) :
    CA Tryz.prog 91 [.pointer (some ⟨go, 0, none⟩), .slice ya yl yc] w (Ret (fun _ : Option Addr × Nat => .tuple #[]) (feet (OutL go b cap xs lg)) (fun z => OutL go z.1 z.2 (xs ++ ys) (lg)) (fun z => OS [] 0 z.1 z.2 (xs ++ ys).length) w) := by
  refine enter (L := [.sl b cap 5 1 (xs.map (Value.int .u8)), .blk go (.cells #[.slice b xs.length cap, .bool lg] 98 (0, 0))]) (X := feet (OutL go b cap xs lg)) Tryz.func91 rfl Tryz.ntmps91 rfl rfl hL0 ?_
  repeat (first | refine c_seq ?_ | (refine c_region (id := 0) ?_; refine sq qm ?_; refine sq qm ?_; refine sq qn ?_; refine sq qf ?_; refine sq ql ?_; refine sq qm ?_; refine se ?_; refine ebs ?_; refine se ?_; refine e_callL rfl rfl (by kernel_rfl) rfl (fun w hC hm hL => by exact concat_c [⟨b, xs.length, cap, xs⟩, ⟨ya, yl, yc, ys⟩] (some ⟨_, 0, none⟩) 2 (by simp) (by simp [jn]; omega) w (fun p hp => by simp only [List.mem_cons, List.not_mem_nil, or_false] at hp; rcases hp with rfl | rfl; exact ⟨SlE.own hL (by (repeat (first | exact List.Mem.head _ | apply List.Mem.tail))) ho, rfl, ho.le, hxb⟩; exact ⟨hys.chn hC hyg, hyl, hyc, hyb⟩) (SlE.blk (enc := Prt.v) hL (by (repeat (first | exact List.Mem.head _ | apply List.Mem.tail))) 0 2 (by rfl))) ?_; intro b1 cap1 zs m1 hz1 ho1 hm1; refine sq qn ?_; refine sq qf ?_; refine se ?_; (refine e_store1l rfl rfl rfl (by (repeat (first | exact List.Mem.head _ | apply List.Mem.tail))) (by first | (simp only [setL]; try exact rfl) | exact rfl) (by (repeat (first | exact Pl.here | apply Pl.there))) rfl (.inl (by simp [feet, OutL, Chunk.foot])) ?_); refine l_nil ?_) | refine n_then ?_ | refine c_block ?_ | refine c_skip ?_ | refine n_block ?_ | refine c_exit ?_ | refine n_then_exit ?_ | refine n_block_eq ?_ | refine n_block_ne rfl ?_ | refine c_ret ?_ | refine n_then_ret ?_ | refine n_block_ret ?_ | refine c_cond_t rfl ?_ | refine c_cond_f rfl ?_ | refine r_succ ?_ )
  obtain rfl : zs = xs ++ ys := by rw [hz1]; simp [jn]
  (first | apply r_ret (b1, cap1) | apply r_end (b1, cap1)); exact rfl; exact rfl; exact .nil; exact rfl; exact (by exact (by (repeat (first | exact List.nil_sublist _ | exact List.Sublist.slnil | apply List.Sublist.cons_cons | exact List.Sublist.refl _ | apply List.Sublist.cons)))); exact (new_sl ho1.newc (new_blk (.inl (by simp [feet, OutL, Chunk.foot])) new_nil)); exact ho1.any
set_option maxRecDepth 100000 in
set_option maxHeartbeats 4000000 in
theorem put_c (go : Nat) (b : Option Addr) (cap : Nat) (xs : List Int) (lg : Bool) (hxb : ∀ x ∈ xs, 0 ≤ x ∧ x ≤ 255) (hxn : xs.length ≤ 16384) (ho : OS [] 0 b cap xs.length) (w : World) (hL0 : Has (OutL go b cap xs lg) w) (ya : Option Addr) (yl yc : Nat) (ys : List Int) (hyl : ys.length = yl) (hyc : yl ≤ yc) (hyb : ∀ x ∈ ys, 0 ≤ x ∧ x ≤ 255) (hyn : yl ≤ 9223372036854775807) (hys : SlE (Value.int .u8) w ya ys) (hyg : NotIn ya ys (feet (OutL go b cap xs lg))) :
    CA Tryz.prog 77 [.pointer (some ⟨go, 0, none⟩), .slice ya yl yc] w (Ret (fun _ : Option Addr × Nat => .tuple #[]) (feet (OutL go b cap xs lg)) (fun z => OutL go z.1 z.2 ((pS xs lg ys).1) ((pS xs lg ys).2)) (fun z => OS [] 0 z.1 z.2 ((pS xs lg ys).1).length) w) := by
  have hx1 := ho.le
  cases lg with
  | true =>
    rw [show pS xs true ys = (xs, true) by simp [pS]]
    refine enter (L := [.sl b cap 5 1 (xs.map (Value.int .u8)), .blk go (.cells #[.slice b xs.length cap, .bool true] 98 (0, 0))]) (X := feet (OutL go b cap xs true)) Tryz.func77 rfl Tryz.ntmps77 rfl rfl hL0 ?_
    repeat (first | refine c_seq ?_ | (refine c_region (id := 0) ?_; refine sq qm ?_; refine sq qn ?_; refine sq qf ?_; refine sq ql ?_; refine sq qm ?_; (first | refine sk ?_ | refine skv ?_ | (refine st_want rfl rfl ?_; refine sq qm ?_)); (first | refine sk ?_ | refine skv ?_ | (refine st_want rfl rfl ?_; refine sq qls ?_)); (first | refine sk ?_ | refine skv ?_ | (refine st_want rfl rfl ?_; refine sq qm ?_)); (first | refine sk ?_ | refine skv ?_ | (refine st_want rfl rfl ?_; refine sq qn ?_)); (first | refine sk ?_ | refine skv ?_ | (refine st_want rfl rfl ?_; refine sq qf ?_)); (first | refine sk ?_ | refine skv ?_ | (refine st_want rfl rfl ?_; refine sq qf ?_)); (first | refine sk ?_ | refine skv ?_ | (refine st_want rfl rfl ?_; refine sq ql ?_)); (first | refine sk ?_ | refine skv ?_ | (refine st_want rfl rfl ?_; refine sq qls ?_)); (first | refine sk ?_ | refine skv ?_ | (refine st_want rfl rfl ?_; refine sq qsub64 ?_)); (first | refine sk ?_ | refine skv ?_ | (refine st_want rfl rfl ?_; refine sq (by first | exact dgtrt | exact dgtrf) ?_)); refine sq (by first | exact qpt | exact qpf) ?_; refine l_nil ?_) | (refine c_region (id := 1) ?_; refine sq qm ?_; refine sq qn ?_; refine sq qf ?_; refine se ?_; (refine e_store1l rfl rfl rfl (by (repeat (first | exact List.Mem.head _ | apply List.Mem.tail))) (by first | (simp only [setL]; try exact rfl) | exact rfl) (by (repeat (first | exact Pl.here | apply Pl.there))) rfl (.inl (by simp [feet, OutL, Chunk.foot])) ?_); refine l_nil ?_) | refine n_then ?_ | refine c_block ?_ | refine c_skip ?_ | refine n_block ?_ | refine c_exit ?_ | refine n_then_exit ?_ | refine n_block_eq ?_ | refine n_block_ne rfl ?_ | refine c_ret ?_ | refine n_then_ret ?_ | refine n_block_ret ?_ | refine c_cond_t rfl ?_ | refine c_cond_f rfl ?_ | refine r_succ ?_ )
    (first | apply r_ret (b, cap) | apply r_end (b, cap)); exact rfl; exact rfl; exact .nil; exact rfl; exact (by exact (by (repeat (first | exact List.nil_sublist _ | exact List.Sublist.slnil | apply List.Sublist.cons_cons | exact List.Sublist.refl _ | apply List.Sublist.cons)))); exact (fun g hg => .inl hg); exact ho
  | false =>
    by_cases hf : 16384 < xs.length + ys.length
    · rw [show pS xs false ys = (xs, true) by unfold pS; rw [if_pos (.inr hf)]]
      refine enter (L := [.sl b cap 5 1 (xs.map (Value.int .u8)), .blk go (.cells #[.slice b xs.length cap, .bool false] 98 (0, 0))]) (X := feet (OutL go b cap xs false)) Tryz.func77 rfl Tryz.ntmps77 rfl rfl hL0 ?_
      repeat (first | refine c_seq ?_ | (refine c_region (id := 0) ?_; refine sq qm ?_; refine sq qn ?_; refine sq qf ?_; refine sq ql ?_; refine sq qm ?_; (first | refine sk ?_ | refine skv ?_ | (refine st_want rfl rfl ?_; refine sq qm ?_)); (first | refine sk ?_ | refine skv ?_ | (refine st_want rfl rfl ?_; refine sq qls ?_)); (first | refine sk ?_ | refine skv ?_ | (refine st_want rfl rfl ?_; refine sq qm ?_)); (first | refine sk ?_ | refine skv ?_ | (refine st_want rfl rfl ?_; refine sq qn ?_)); (first | refine sk ?_ | refine skv ?_ | (refine st_want rfl rfl ?_; refine sq qf ?_)); (first | refine sk ?_ | refine skv ?_ | (refine st_want rfl rfl ?_; refine sq qf ?_)); (first | refine sk ?_ | refine skv ?_ | (refine st_want rfl rfl ?_; refine sq ql ?_)); (first | refine sk ?_ | refine skv ?_ | (refine st_want rfl rfl ?_; refine sq qls ?_)); (first | refine sk ?_ | refine skv ?_ | (refine st_want rfl rfl ?_; refine sq qsub64 ?_)); (first | refine sk ?_ | refine skv ?_ | (refine st_want rfl rfl ?_; refine sq (by first | exact dgtrt | exact dgtrf) ?_)); refine sq (by first | exact qpt | exact qpf) ?_; refine l_nil ?_) | (refine c_region (id := 1) ?_; refine sq qm ?_; refine sq qn ?_; refine sq qf ?_; refine se ?_; (refine e_store1l rfl rfl rfl (by (repeat (first | exact List.Mem.head _ | apply List.Mem.tail))) (by first | (simp only [setL]; try exact rfl) | exact rfl) (by (repeat (first | exact Pl.here | apply Pl.there))) rfl (.inl (by simp [feet, OutL, Chunk.foot])) ?_); refine l_nil ?_) | refine n_then ?_ | refine c_block ?_ | refine c_skip ?_ | refine n_block ?_ | refine c_exit ?_ | refine n_then_exit ?_ | refine n_block_eq ?_ | refine n_block_ne rfl ?_ | refine c_ret ?_ | refine n_then_ret ?_ | refine n_block_ret ?_ | refine c_cond_t rfl ?_ | refine c_cond_f rfl ?_ | refine r_succ ?_ )
      (first | apply r_ret (b, cap) | apply r_end (b, cap)); exact rfl; exact rfl; exact .nil; exact rfl; exact (by exact (by (repeat (first | exact List.nil_sublist _ | exact List.Sublist.slnil | apply List.Sublist.cons_cons | exact List.Sublist.refl _ | apply List.Sublist.cons)))); exact (fun g hg => .inl hg); exact ho
    · rw [show pS xs false ys = (xs ++ ys, false) by unfold pS; rw [if_neg (by simp; omega)]]
      refine enter (L := [.sl b cap 5 1 (xs.map (Value.int .u8)), .blk go (.cells #[.slice b xs.length cap, .bool false] 98 (0, 0))]) (X := feet (OutL go b cap xs false)) Tryz.func77 rfl Tryz.ntmps77 rfl rfl hL0 ?_
      repeat (first | refine c_seq ?_ | (refine c_region (id := 0) ?_; refine sq qm ?_; refine sq qn ?_; refine sq qf ?_; refine sq ql ?_; refine sq qm ?_; (first | refine sk ?_ | refine skv ?_ | (refine st_want rfl rfl ?_; refine sq qm ?_)); (first | refine sk ?_ | refine skv ?_ | (refine st_want rfl rfl ?_; refine sq qls ?_)); (first | refine sk ?_ | refine skv ?_ | (refine st_want rfl rfl ?_; refine sq qm ?_)); (first | refine sk ?_ | refine skv ?_ | (refine st_want rfl rfl ?_; refine sq qn ?_)); (first | refine sk ?_ | refine skv ?_ | (refine st_want rfl rfl ?_; refine sq qf ?_)); (first | refine sk ?_ | refine skv ?_ | (refine st_want rfl rfl ?_; refine sq qf ?_)); (first | refine sk ?_ | refine skv ?_ | (refine st_want rfl rfl ?_; refine sq ql ?_)); (first | refine sk ?_ | refine skv ?_ | (refine st_want rfl rfl ?_; refine sq qls ?_)); (first | refine sk ?_ | refine skv ?_ | (refine st_want rfl rfl ?_; refine sq qsub64 ?_)); (first | refine sk ?_ | refine skv ?_ | (refine st_want rfl rfl ?_; refine sq (by first | exact dgtrt | exact dgtrf) ?_)); refine sq (by first | exact qpt | exact qpf) ?_; refine l_nil ?_) | refine n_then ?_ | refine c_block ?_ | refine c_skip ?_ | refine n_block ?_ | refine c_exit ?_ | refine n_then_exit ?_ | refine n_block_eq ?_ | refine n_block_ne rfl ?_ | refine c_ret ?_ | refine n_then_ret ?_ | refine n_block_ret ?_ | refine c_cond_t rfl ?_ | refine c_cond_f rfl ?_ | refine r_succ ?_ )
      repeat (first | refine c_seq ?_ | (refine c_region (id := 2) ?_; refine sq qm ?_; refine sq qn ?_; refine sq qf ?_; refine sq qm ?_; refine se ?_; refine e_callX (OutL go b cap xs false) (fun z : Option Addr × Nat => [.sl z.1 z.2 5 1 ((xs ++ ys).map (Value.int .u8)), .blk go (.cells #[.slice z.1 (xs ++ ys).length z.2, .bool false] 98 (0, 0))]) rfl rfl (by kernel_rfl) rfl (by (repeat (first | exact Sp.nil | (apply Sp.cons; focus (repeat (first | exact Rm.here | apply Rm.there)))))) (fun w hC hm hA hL hap => by exact grow_c go b cap xs false hxb hxn ho w hA ya yl yc ys hyl hyc hyb (by omega) (hys.chn hC hyg) hyg) (fun g hg => .inl hg) (fun z => by rfl) ?_; rintro ⟨b1, cap1⟩ m1 ho1 hn1 hm1; dsimp only at ho1 hn1 ⊢; refine l_nil ?_) | refine n_then ?_ | refine c_block ?_ | refine c_skip ?_ | refine n_block ?_ | refine c_exit ?_ | refine n_then_exit ?_ | refine n_block_eq ?_ | refine n_block_ne rfl ?_ | refine c_ret ?_ | refine n_then_ret ?_ | refine n_block_ret ?_ | refine c_cond_t rfl ?_ | refine c_cond_f rfl ?_ | refine r_succ ?_ )
      (first | apply r_ret (b1, cap1) | apply r_end (b1, cap1)); exact rfl; exact rfl; exact .nil; exact rfl; exact (by exact (by (repeat (first | exact List.nil_sublist _ | exact List.Sublist.slnil | apply List.Sublist.cons_cons | exact List.Sublist.refl _ | apply List.Sublist.cons)))); exact hn1; exact ho1
end Go.Proofs.YtgmghkakiocmjaaGreatDoor
