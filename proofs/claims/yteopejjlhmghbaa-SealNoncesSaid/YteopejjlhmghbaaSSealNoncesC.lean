/- Proved: for every input, the law jalousielaw04.SealNonces returns true and does not panic, and each argument reads behind the call as it read before. Conditions: none. -/
import Derived.Test.YteopejjlhmghbaaSSealNoncesB
namespace Go.Proofs.Yteopejjlhmghbaa
open Go Go.RowKit
set_option linter.unusedVariables false
set_option linter.unusedSimpArgs false
theorem and32 (x : Nat) (h : x < 18446744073709551616) : bits .and .u64 (x : Int) 4294967295 = ((x % 4294967296 : Nat) : Int) := by
  have := u64_and_nat x 4294967295 h (by omega)
  rw [show (4294967295 : Nat) = 2 ^ 32 - 1 from rfl, Nat.and_two_pow_sub_one_eq_mod] at this
  exact this
theorem shr32 (x : Nat) : (x : Int) / 2 ^ (32 : Int).toNat = ((x / 4294967296 : Nat) : Int) := by
  show (x : Int) / 4294967296 = _
  omega
theorem mul_hi (x0 x1 y0 y1 : Nat) (hx0 : x0 < 4294967296) (hx1 : x1 < 4294967296) (hy0 : y0 < 4294967296) (hy1 : y1 < 4294967296) :
    x1 * y1 + (x1 * y0 + x0 * y0 / 4294967296) / 4294967296 + ((x1 * y0 + x0 * y0 / 4294967296) % 4294967296 + x0 * y1) / 4294967296 = (x1 * 4294967296 + x0) * (y1 * 4294967296 + y0) / 18446744073709551616 := by
  have e : (x1 * 4294967296 + x0) * (y1 * 4294967296 + y0) = x1 * y1 * 18446744073709551616 + (x1 * y0 + x0 * y1) * 4294967296 + x0 * y0 := by
    rw [Nat.add_mul, Nat.mul_add, Nat.mul_add]
    have a1 : x1 * 4294967296 * (y1 * 4294967296) = x1 * y1 * 18446744073709551616 := by rw [Nat.mul_mul_mul_comm]
    have a2 : x1 * 4294967296 * y0 = x1 * y0 * 4294967296 := by rw [Nat.mul_right_comm]
    have a3 : x0 * (y1 * 4294967296) = x0 * y1 * 4294967296 := by rw [Nat.mul_assoc]
    rw [a1, a2, a3]
    omega
  rw [e]
  generalize x1 * y1 = a
  generalize x1 * y0 = b
  generalize x0 * y1 = c
  generalize x0 * y0 = d
  omega
set_option maxRecDepth 100000 in
set_option maxHeartbeats 4000000 in
theorem mul64_c (x y : Nat) (hx : x < 18446744073709551616) (hy : y < 18446744073709551616) (w : World) :
    CA Try.prog 92 [.int .u64 x, .int .u64 y] w (RV (.tuple #[.int .u64 ((x * y / 18446744073709551616 : Nat) : Int), .int .u64 ((x * y % 18446744073709551616 : Nat) : Int)]) w) := by
  obtain ⟨x0, hx0⟩ : ∃ z, z = x % 4294967296 := ⟨_, rfl⟩
  obtain ⟨x1, hx1⟩ : ∃ z, z = x / 4294967296 := ⟨_, rfl⟩
  obtain ⟨y0, hy0⟩ : ∃ z, z = y % 4294967296 := ⟨_, rfl⟩
  obtain ⟨y1, hy1⟩ : ∃ z, z = y / 4294967296 := ⟨_, rfl⟩
  have b00 : x0 * y0 ≤ 4294967295 * 4294967295 := Nat.mul_le_mul (by omega) (by omega)
  have b10 : x1 * y0 ≤ 4294967295 * 4294967295 := Nat.mul_le_mul (by omega) (by omega)
  have b01 : x0 * y1 ≤ 4294967295 * 4294967295 := Nat.mul_le_mul (by omega) (by omega)
  have b11 : x1 * y1 ≤ 4294967295 * 4294967295 := Nat.mul_le_mul (by omega) (by omega)
  obtain ⟨tt, htt⟩ : ∃ z, z = x1 * y0 + x0 * y0 / 4294967296 := ⟨_, rfl⟩
  obtain ⟨ww, hww⟩ : ∃ z, z = tt % 4294967296 + x0 * y1 := ⟨_, rfl⟩
  have hhi : x1 * y1 + tt / 4294967296 + ww / 4294967296 = x * y / 18446744073709551616 := by
    rw [hww, htt, mul_hi x0 x1 y0 y1 (by omega) (by omega) (by omega) (by omega), show x1 * 4294967296 + x0 = x by omega, show y1 * 4294967296 + y0 = y by omega]
  have hlt : x * y / 18446744073709551616 < 18446744073709551616 := by
    have := Nat.mul_le_mul (show x ≤ 18446744073709551615 by omega) (show y ≤ 18446744073709551615 by omega)
    omega
  refine enter (L := []) (X := []) Try.func92 rfl Try.ntmps92 rfl rfl (Has.nil _) ?_
  repeat (first | refine c_seq ?_ | (refine c_region (id := 0) ?_; refine sq qa ?_; refine sq qa ?_; refine l_nil ?_) | (refine c_region (id := 1) ?_; refine sq qm ?_; refine sq (by exact Qt.cast (v' := .int .u64 ((x % 4294967296 : Nat) : Int)) (congrArg (Value.int .u64) (and32 x hx)) (q_and rfl rfl)) ?_; refine sq qa ?_; refine l_nil ?_) | (refine c_region (id := 2) ?_; refine sq qm ?_; refine sq (by exact Qt.cast (v' := .int .u64 ((x / 4294967296 : Nat) : Int)) (congrArg (Value.int .u64) (shr32 x)) (q_shr rfl rfl (by omega) (by show _ ≤ 64; decide))) ?_; refine sq qa ?_; refine l_nil ?_) | (refine c_region (id := 3) ?_; refine sq qm ?_; refine sq (by exact Qt.cast (v' := .int .u64 ((y % 4294967296 : Nat) : Int)) (congrArg (Value.int .u64) (and32 y hy)) (q_and rfl rfl)) ?_; refine sq qa ?_; refine l_nil ?_) | (refine c_region (id := 4) ?_; refine sq qm ?_; refine sq (by exact Qt.cast (v' := .int .u64 ((y / 4294967296 : Nat) : Int)) (congrArg (Value.int .u64) (shr32 y)) (q_shr rfl rfl (by omega) (by show _ ≤ 64; decide))) ?_; refine sq qa ?_; refine l_nil ?_) | refine n_then ?_ | refine c_block ?_ | refine c_skip ?_ | refine n_block ?_ | refine c_exit ?_ | refine n_then_exit ?_ | refine n_block_eq ?_ | refine n_block_ne rfl ?_ | refine c_ret ?_ | refine n_then_ret ?_ | refine n_block_ret ?_ | refine c_cond_t rfl ?_ | refine c_cond_f rfl ?_ | refine r_succ ?_ )
  rw [← hx0, ← hx1, ← hy0, ← hy1]
  repeat (first | refine c_seq ?_ | (refine c_region (id := 5) ?_; refine sq qm ?_; refine sq qm ?_; refine sq (by exact Qt.cast (v' := .int .u64 ((x0 * y0 : Nat) : Int)) (congrArg (Value.int .u64) (by omega)) (q_mulU rfl rfl)) ?_; refine sq qa ?_; refine l_nil ?_) | (refine c_region (id := 6) ?_; refine sq qm ?_; refine sq qm ?_; refine sq (by exact Qt.cast (v' := .int .u64 ((x1 * y0 : Nat) : Int)) (congrArg (Value.int .u64) (by omega)) (q_mulU rfl rfl)) ?_; refine sq qm ?_; refine sq (by exact Qt.cast (v' := .int .u64 ((x0 * y0 / 4294967296 : Nat) : Int)) (congrArg (Value.int .u64) (shr32 _)) (q_shr rfl rfl (by omega) (by show _ ≤ 64; decide))) ?_; refine sq (by exact Qt.cast (v' := .int .u64 ((tt : Nat) : Int)) (congrArg (Value.int .u64) (by omega)) (q_addU rfl rfl)) ?_; refine sq qa ?_; refine l_nil ?_) | (refine c_region (id := 7) ?_; refine sq qm ?_; refine sq (by exact Qt.cast (v' := .int .u64 ((tt % 4294967296 : Nat) : Int)) (congrArg (Value.int .u64) (and32 tt (by omega))) (q_and rfl rfl)) ?_; refine sq qa ?_; refine l_nil ?_) | (refine c_region (id := 8) ?_; refine sq qm ?_; refine sq (by exact Qt.cast (v' := .int .u64 ((tt / 4294967296 : Nat) : Int)) (congrArg (Value.int .u64) (shr32 _)) (q_shr rfl rfl (by omega) (by show _ ≤ 64; decide))) ?_; refine sq qa ?_; refine l_nil ?_) | (refine c_region (id := 9) ?_; refine sq qm ?_; refine sq qm ?_; refine sq qm ?_; refine sq (by exact Qt.cast (v' := .int .u64 ((x0 * y1 : Nat) : Int)) (congrArg (Value.int .u64) (by omega)) (q_mulU rfl rfl)) ?_; refine sq (by exact Qt.cast (v' := .int .u64 ((ww : Nat) : Int)) (congrArg (Value.int .u64) (by omega)) (q_addU rfl rfl)) ?_; refine sq qa ?_; refine l_nil ?_) | (refine c_region (id := 10) ?_; refine sq qm ?_; refine sq qm ?_; refine sq (by exact Qt.cast (v' := .int .u64 ((x1 * y1 : Nat) : Int)) (congrArg (Value.int .u64) (by omega)) (q_mulU rfl rfl)) ?_; refine sq qm ?_; refine sq (by exact Qt.cast (v' := .int .u64 ((x1 * y1 + tt / 4294967296 : Nat) : Int)) (congrArg (Value.int .u64) (by omega)) (q_addU rfl rfl)) ?_; refine sq qm ?_; refine sq (by exact Qt.cast (v' := .int .u64 ((ww / 4294967296 : Nat) : Int)) (congrArg (Value.int .u64) (shr32 _)) (q_shr rfl rfl (by omega) (by show _ ≤ 64; decide))) ?_; refine sq (by exact Qt.cast (v' := .int .u64 ((x * y / 18446744073709551616 : Nat) : Int)) (congrArg (Value.int .u64) (by rw [← hhi]; omega)) (q_addU rfl rfl)) ?_; refine sq qa ?_; refine l_nil ?_) | (refine c_region (id := 11) ?_; refine sq qm ?_; refine sq qm ?_; refine sq (by exact Qt.cast (v' := .int .u64 ((x * y % 18446744073709551616 : Nat) : Int)) (congrArg (Value.int .u64) (by rw [Int.natCast_emod, Int.natCast_mul]; rfl)) (q_mulU rfl rfl)) ?_; refine sq qa ?_; refine l_nil ?_) | refine n_then ?_ | refine c_block ?_ | refine c_skip ?_ | refine n_block ?_ | refine c_exit ?_ | refine n_then_exit ?_ | refine n_block_eq ?_ | refine n_block_ne rfl ?_ | refine c_ret ?_ | refine n_then_ret ?_ | refine n_block_ret ?_ | refine c_cond_t rfl ?_ | refine c_cond_f rfl ?_ | refine r_succ ?_ )
  (first | apply r_ret () | apply r_end ()); exact rfl; exact rfl; exact (.tmp rfl (.tmp rfl .nil)); exact rfl; exact (List.nil_sublist _); exact new_nil; exact trivial
end Go.Proofs.Yteopejjlhmghbaa
namespace Go.Proofs.Yteopejjlhmghbaa
open Go Go.RowKit
set_option linter.unusedVariables false
set_option linter.unusedSimpArgs false
structure AE (x y c s q : Nat) : Prop where
  s : s = (x + y + c) % 18446744073709551616
  q : q = (x + y + c) / 18446744073709551616
structure ME (x y A B : Nat) : Prop where
  hi : A = x * y / 18446744073709551616
  lo : B = x * y % 18446744073709551616
theorem AE.lt {x y c s q : Nat} (h : AE x y c s q) : s < 18446744073709551616 := by rw [h.s]; omega
theorem AE.le {x y c s q : Nat} (h : AE x y c s q) (hx : x < 18446744073709551616) (hy : y < 18446744073709551616) (hc : c ≤ 1) : q ≤ 1 := by rw [h.q]; omega
theorem ME.lo_lt {x y A B : Nat} (h : ME x y A B) : B < 18446744073709551616 := by rw [h.lo]; omega
theorem ME.hi_lt {x y A B : Nat} (h : ME x y A B) (hx : x < 18446744073709551616) (hy : y < 18446744073709551616) : A < 18446744073709551616 := by
  have := Nat.mul_le_mul (show x ≤ 18446744073709551615 by omega) (show y ≤ 18446744073709551615 by omega)
  rw [h.hi]; omega
theorem run_add64v {P : Program} (x y c : Nat) {s q : Nat} (hc : c ≤ 1) (h : AE x y c s q) (w : World) : (add64Entry #[.int .u64 x, .int .u64 y, .int .u64 c]).run P w = .ok (.tuple #[.int .u64 (s : Int), .int .u64 (q : Int)]) w := by
  obtain ⟨rfl, rfl⟩ := h
  rw [run_add64 x y c (by omega) (by omega) (by omega) (by omega)]
  congr 5 <;> omega
set_option maxRecDepth 100000 in
set_option maxHeartbeats 1000000 in
theorem add_c (g l m h a b l' k1 m' k2 : Nat) (r0 r1 : Int) (hl : l < 18446744073709551616) (hm0 : m < 18446744073709551616) (ha : a < 18446744073709551616) (hb : b < 18446744073709551616) (e1 : AE l a 0 l' k1) (e2 : AE m b k1 m' k2) (w : World) (hL : Has [.blk g (.cells #[.int .u64 (l : Int), .int .u64 (m : Int), .int .u64 (h : Int), .int .u64 r0, .int .u64 r1] 108 (0, 0))] w) :
    CA Try.prog 93 [.pointer (some ⟨g, 0, none⟩), .int .u64 (a : Int), .int .u64 (b : Int)] w (RU (.tuple #[]) g (.cells #[.int .u64 (l' : Int), .int .u64 (m' : Int), .int .u64 (((h + k2) % 18446744073709551616 : Nat) : Int), .int .u64 r0, .int .u64 r1] 108 (0, 0)) w) := by
  have hk1 : k1 ≤ 1 := e1.le hl ha (by omega)
  refine enter (L := _) (X := [g]) Try.func93 rfl Try.ntmps93 rfl rfl hL ?_
  repeat (first | refine c_seq ?_ | (refine c_region (id := 0) ?_; refine sq qa ?_; refine l_nil ?_) | (refine c_region (id := 1) ?_; refine sq qm ?_; refine sq qm ?_; refine sq qn ?_; refine sq qf ?_; refine sq ql ?_; refine sq qm ?_; refine se ?_; refine e_q (by first | exact q_extern Try.func78 rfl rfl (by kernel_rfl) (by kernel_rfl) rfl (fun w => run_add64v l a 0 (by omega) e1 w) | exact q_extern Try.func78 rfl rfl (by kernel_rfl) (by kernel_rfl) rfl (fun w => run_add64v m b k1 (by omega) e2 w)) rfl ?_; refine sq qm ?_; refine sq qe ?_; refine sq qe ?_; refine sq qn ?_; refine sq qf ?_; refine se ?_; (first | refine es1 ?_ | refine es2 ?_ | refine es3 ?_); refine sq qa ?_; refine l_nil ?_) | (refine c_region (id := 2) ?_; refine sq qm ?_; refine sq qm ?_; refine sq qn ?_; refine sq qf ?_; refine sq ql ?_; refine sq qm ?_; refine sq qm ?_; refine se ?_; refine e_q (by first | exact q_extern Try.func78 rfl rfl (by kernel_rfl) (by kernel_rfl) rfl (fun w => run_add64v l a 0 (by omega) e1 w) | exact q_extern Try.func78 rfl rfl (by kernel_rfl) (by kernel_rfl) rfl (fun w => run_add64v m b k1 (by omega) e2 w)) rfl ?_; refine sq qm ?_; refine sq qe ?_; refine sq qe ?_; refine sq qn ?_; refine sq qf ?_; refine se ?_; (first | refine es1 ?_ | refine es2 ?_ | refine es3 ?_); refine sq qa ?_; refine l_nil ?_) | (refine c_region (id := 3) ?_; refine sq qm ?_; refine sq qn ?_; refine sq qf ?_; refine sq ql ?_; refine sq qm ?_; refine sq (by exact Qt.cast (v' := .int .u64 (((h + k2) % 18446744073709551616 : Nat) : Int)) (congrArg (Value.int .u64) (by omega)) (q_addU rfl rfl)) ?_; refine sq qn ?_; refine sq qf ?_; refine se ?_; (first | refine es1 ?_ | refine es2 ?_ | refine es3 ?_); refine l_nil ?_) | refine n_then ?_ | refine c_block ?_ | refine c_skip ?_ | refine n_block ?_ | refine c_exit ?_ | refine n_then_exit ?_ | refine n_block_eq ?_ | refine n_block_ne rfl ?_ | refine c_ret ?_ | refine n_then_ret ?_ | refine n_block_ret ?_ | refine c_cond_t rfl ?_ | refine c_cond_f rfl ?_ | refine r_succ ?_ )
  (first | apply r_ret () | apply r_end ()); exact rfl; exact rfl; exact .nil; exact rfl; exact (List.Sublist.refl _); exact (new_blk (.inl (by simp)) new_nil); exact trivial
theorem mul64_v (x y A B : Nat) (hx : x < 18446744073709551616) (hy : y < 18446744073709551616) (h : ME x y A B) (w : World) : CA Try.prog 92 [.int .u64 x, .int .u64 y] w (RV (.tuple #[.int .u64 (A : Int), .int .u64 (B : Int)]) w) := by
  obtain ⟨rfl, rfl⟩ := h
  exact mul64_c x y hx hy w
structure EU (u t2 d3 : Nat) : Prop where
  h : u = t2 / 4 ||| d3 * 4611686018427387904 % 18446744073709551616
theorem shr2 (x : Nat) : (x : Int) / 2 ^ (2 : Int).toNat = ((x / 4 : Nat) : Int) := by
  show (x : Int) / 4 = _
  omega
theorem shl62 (x : Nat) : (x : Int) * 2 ^ (62 : Int).toNat % 18446744073709551616 = ((x * 4611686018427387904 % 18446744073709551616 : Nat) : Int) := by
  show (x : Int) * 4611686018427387904 % 18446744073709551616 = _
  omega
set_option maxRecDepth 100000 in
set_option maxHeartbeats 1000000 in
theorem times_c (g l m h rl rh p0 q0 x1 x2 x3 A Z B O C O2 D W p q o1 k1 b1 kb t1 k2 d1 d2 o2 k3 t2 k4 d3 l1 c1 m1 c2 u l2 c3 m2 c4 : Nat) (hl : l < 18446744073709551616) (hm0 : m < 18446744073709551616) (hh : h < 18446744073709551616) (hrl : rl < 18446744073709551616) (hrh : rh < 18446744073709551616)
    (e1 : ME l rl A Z) (e2 : ME m rl B O) (e3 : ME l rh C O2) (e4 : ME m rh D W) (hp : ME h rl p0 p) (hq : ME h rh q0 q)
    (e5 : AE O O2 0 o1 k1) (e6 : AE B C k1 b1 kb) (e7 : AE W p 0 t1 k2) (hd1 : AE D q 0 d1 x1) (hd2 : AE d1 k2 0 d2 x2) (e8 : AE o1 A 0 o2 k3) (e9 : AE t1 b1 k3 t2 k4) (hd3 : AE d2 k4 0 d3 x3)
    (f1 : AE Z (t2 &&& (18446744073709551615 - 3)) 0 l1 c1) (f2 : AE o2 d3 c1 m1 c2) (hu : EU u t2 d3) (f3 : AE l1 u 0 l2 c3) (f4 : AE m1 (d3 / 4) c3 m2 c4)
    (w : World) (hL : Has [.blk g (.cells #[.int .u64 (l : Int), .int .u64 (m : Int), .int .u64 (h : Int), .int .u64 (rl : Int), .int .u64 (rh : Int)] 108 (0, 0))] w) :
    CA Try.prog 79 [.pointer (some ⟨g, 0, none⟩)] w (RU (.tuple #[]) g (.cells #[.int .u64 (l2 : Int), .int .u64 (m2 : Int), .int .u64 ((((((t2 &&& 3) + c2) % 18446744073709551616) + c4) % 18446744073709551616 : Nat) : Int), .int .u64 (rl : Int), .int .u64 (rh : Int)] 108 (0, 0)) w) := by
  have hA : A < 18446744073709551616 := e1.hi_lt hl hrl
  have hZ := e1.lo_lt
  have hO := e2.lo_lt
  have hO2 := e3.lo_lt
  have hW := e4.lo_lt
  have hp1 := hp.lo_lt
  have ho1 := e5.lt
  have hk1 := e5.le hO hO2 (by omega)
  have hk2 := e7.le hW hp1 (by omega)
  have ho2 := e8.lt
  have hk3 := e8.le ho1 hA (by omega)
  have ht2 := e9.lt
  have hd3l := hd3.lt
  have hand : t2 &&& (18446744073709551615 - 3) < 18446744073709551616 := Nat.lt_of_le_of_lt Nat.and_le_left ht2
  have hl1 := f1.lt
  have hc1 := f1.le hZ hand (by omega)
  have hm1 := f2.lt
  have hor : u < 18446744073709551616 := by rw [hu.h]; exact Nat.or_lt_two_pow (n := 64) (by omega) (by omega)
  have hc3 := f3.le hl1 hor (by omega)
  refine enter (L := _) (X := [g]) Try.func79 rfl Try.ntmps79 rfl rfl hL ?_
  repeat (first | refine c_seq ?_ | (refine x_region (id := 0) (some 8) [(0, .n), (1, .n), (2, .n), (3, .q), (4, .n), (5, .n), (6, .n), (7, .q), (8, .b), (9, .n), (10, .n), (11, .n), (12, .n), (13, .n)] _ mixed (by kernel_rfl) (List.Sublist.refl _) ?_; refine xn rfl qm ?_; refine xn rfl qn ?_; refine xn rfl qf ?_; refine xq rfl ql ?_; refine xn rfl qm ?_; refine xn rfl qn ?_; refine xn rfl qf ?_; refine xq rfl ql ?_; refine x_b rfl ?_; refine ecp rfl rfl (fun w hC hm hL => by first | exact mul64_v l rl A Z (by omega) (by omega) e1 w | exact mul64_v m rl B O (by omega) (by omega) e2 w | exact mul64_v l rh C O2 (by omega) (by omega) e3 w | exact mul64_v m rh D W (by omega) (by omega) e4 w) ?_; intro m' hm'; refine x_k (List.nil_sublist _) ?_; refine xn rfl qm ?_; refine xn rfl qe ?_; refine xn rfl qe ?_; refine xn rfl qa ?_; refine xn rfl qa ?_; refine x_nil ?_) | (refine x_region (id := 1) (some 8) [(0, .n), (1, .n), (2, .n), (3, .q), (4, .n), (5, .n), (6, .n), (7, .q), (8, .b), (9, .n), (10, .n), (11, .n), (12, .n), (13, .n)] _ mixed (by kernel_rfl) (List.Sublist.refl _) ?_; refine xn rfl qm ?_; refine xn rfl qn ?_; refine xn rfl qf ?_; refine xq rfl ql ?_; refine xn rfl qm ?_; refine xn rfl qn ?_; refine xn rfl qf ?_; refine xq rfl ql ?_; refine x_b rfl ?_; refine ecp rfl rfl (fun w hC hm hL => by first | exact mul64_v l rl A Z (by omega) (by omega) e1 w | exact mul64_v m rl B O (by omega) (by omega) e2 w | exact mul64_v l rh C O2 (by omega) (by omega) e3 w | exact mul64_v m rh D W (by omega) (by omega) e4 w) ?_; intro m' hm'; refine x_k (List.nil_sublist _) ?_; refine xn rfl qm ?_; refine xn rfl qe ?_; refine xn rfl qe ?_; refine xn rfl qa ?_; refine xn rfl qa ?_; refine x_nil ?_) | (refine x_region (id := 2) (some 8) [(0, .n), (1, .n), (2, .n), (3, .q), (4, .n), (5, .n), (6, .n), (7, .q), (8, .b), (9, .n), (10, .n), (11, .n), (12, .n), (13, .n)] _ mixed (by kernel_rfl) (List.Sublist.refl _) ?_; refine xn rfl qm ?_; refine xn rfl qn ?_; refine xn rfl qf ?_; refine xq rfl ql ?_; refine xn rfl qm ?_; refine xn rfl qn ?_; refine xn rfl qf ?_; refine xq rfl ql ?_; refine x_b rfl ?_; refine ecp rfl rfl (fun w hC hm hL => by first | exact mul64_v l rl A Z (by omega) (by omega) e1 w | exact mul64_v m rl B O (by omega) (by omega) e2 w | exact mul64_v l rh C O2 (by omega) (by omega) e3 w | exact mul64_v m rh D W (by omega) (by omega) e4 w) ?_; intro m' hm'; refine x_k (List.nil_sublist _) ?_; refine xn rfl qm ?_; refine xn rfl qe ?_; refine xn rfl qe ?_; refine xn rfl qa ?_; refine xn rfl qa ?_; refine x_nil ?_) | (refine x_region (id := 3) (some 8) [(0, .n), (1, .n), (2, .n), (3, .q), (4, .n), (5, .n), (6, .n), (7, .q), (8, .b), (9, .n), (10, .n), (11, .n), (12, .n), (13, .n)] _ mixed (by kernel_rfl) (List.Sublist.refl _) ?_; refine xn rfl qm ?_; refine xn rfl qn ?_; refine xn rfl qf ?_; refine xq rfl ql ?_; refine xn rfl qm ?_; refine xn rfl qn ?_; refine xn rfl qf ?_; refine xq rfl ql ?_; refine x_b rfl ?_; refine ecp rfl rfl (fun w hC hm hL => by first | exact mul64_v l rl A Z (by omega) (by omega) e1 w | exact mul64_v m rl B O (by omega) (by omega) e2 w | exact mul64_v l rh C O2 (by omega) (by omega) e3 w | exact mul64_v m rh D W (by omega) (by omega) e4 w) ?_; intro m' hm'; refine x_k (List.nil_sublist _) ?_; refine xn rfl qm ?_; refine xn rfl qe ?_; refine xn rfl qe ?_; refine xn rfl qa ?_; refine xn rfl qa ?_; refine x_nil ?_) | (refine c_region (id := 4) ?_; refine sq qm ?_; refine sq qm ?_; refine se ?_; refine e_q (by first | exact q_extern Try.func78 rfl rfl (by kernel_rfl) (by kernel_rfl) rfl (fun w => run_add64v O O2 0 (by omega) e5 w) | exact q_extern Try.func78 rfl rfl (by kernel_rfl) (by kernel_rfl) rfl (fun w => run_add64v B C k1 (by omega) e6 w) | exact q_extern Try.func78 rfl rfl (by kernel_rfl) (by kernel_rfl) rfl (fun w => run_add64v W p 0 (by omega) e7 w) | exact q_extern Try.func78 rfl rfl (by kernel_rfl) (by kernel_rfl) rfl (fun w => run_add64v o1 A 0 (by omega) e8 w) | exact q_extern Try.func78 rfl rfl (by kernel_rfl) (by kernel_rfl) rfl (fun w => run_add64v t1 b1 k3 (by omega) e9 w)) rfl ?_; refine sq qm ?_; refine sq qe ?_; refine sq qe ?_; refine sq qa ?_; refine sq qa ?_; refine l_nil ?_) | (refine c_region (id := 5) ?_; refine sq qm ?_; refine sq qm ?_; refine sq qm ?_; refine se ?_; refine e_q (by first | exact q_extern Try.func78 rfl rfl (by kernel_rfl) (by kernel_rfl) rfl (fun w => run_add64v O O2 0 (by omega) e5 w) | exact q_extern Try.func78 rfl rfl (by kernel_rfl) (by kernel_rfl) rfl (fun w => run_add64v B C k1 (by omega) e6 w) | exact q_extern Try.func78 rfl rfl (by kernel_rfl) (by kernel_rfl) rfl (fun w => run_add64v W p 0 (by omega) e7 w) | exact q_extern Try.func78 rfl rfl (by kernel_rfl) (by kernel_rfl) rfl (fun w => run_add64v o1 A 0 (by omega) e8 w) | exact q_extern Try.func78 rfl rfl (by kernel_rfl) (by kernel_rfl) rfl (fun w => run_add64v t1 b1 k3 (by omega) e9 w)) rfl ?_; refine sq qm ?_; refine sq qe ?_; refine sq qe ?_; refine sq qa ?_; refine l_nil ?_) | (refine x_region (id := 6) none [(0, .n), (1, .n), (2, .n), (3, .n), (4, .q), (5, .n), (6, .n), (7, .n), (8, .q), (9, .n), (10, .e), (11, .n), (12, .n), (13, .n), (14, .n), (15, .n)] _ mixed (by kernel_rfl) (List.Sublist.refl _) ?_; refine xn rfl qm ?_; refine xn rfl qm ?_; refine xn rfl qn ?_; refine xn rfl qf ?_; refine xq rfl ql ?_; refine xn rfl qm ?_; refine xn rfl qn ?_; refine xn rfl qf ?_; refine xq rfl ql ?_; refine xn rfl (by exact Qt.cast (v' := .int .u64 ((p : Nat) : Int)) (congrArg (Value.int .u64) (by rw [hp.lo, Int.natCast_emod, Int.natCast_mul]; rfl)) (q_mulU rfl rfl)) ?_; refine x_e rfl ?_; refine e_q (by first | exact q_extern Try.func78 rfl rfl (by kernel_rfl) (by kernel_rfl) rfl (fun w => run_add64v O O2 0 (by omega) e5 w) | exact q_extern Try.func78 rfl rfl (by kernel_rfl) (by kernel_rfl) rfl (fun w => run_add64v B C k1 (by omega) e6 w) | exact q_extern Try.func78 rfl rfl (by kernel_rfl) (by kernel_rfl) rfl (fun w => run_add64v W p 0 (by omega) e7 w) | exact q_extern Try.func78 rfl rfl (by kernel_rfl) (by kernel_rfl) rfl (fun w => run_add64v o1 A 0 (by omega) e8 w) | exact q_extern Try.func78 rfl rfl (by kernel_rfl) (by kernel_rfl) rfl (fun w => run_add64v t1 b1 k3 (by omega) e9 w)) rfl ?_; refine xk ?_; refine xn rfl qm ?_; refine xn rfl qe ?_; refine xn rfl qe ?_; refine xn rfl qa ?_; refine xn rfl qa ?_; refine x_nil ?_) | (refine x_region (id := 7) none [(0, .n), (1, .n), (2, .n), (3, .n), (4, .q), (5, .n), (6, .n), (7, .n), (8, .q), (9, .n), (10, .n), (11, .n), (12, .n), (13, .n)] _ mixed (by kernel_rfl) (List.Sublist.refl _) ?_; refine xn rfl qm ?_; refine xn rfl qm ?_; refine xn rfl qn ?_; refine xn rfl qf ?_; refine xq rfl ql ?_; refine xn rfl qm ?_; refine xn rfl qn ?_; refine xn rfl qf ?_; refine xq rfl ql ?_; refine xn rfl (by exact Qt.cast (v' := .int .u64 ((q : Nat) : Int)) (congrArg (Value.int .u64) (by rw [hq.lo, Int.natCast_emod, Int.natCast_mul]; rfl)) (q_mulU rfl rfl)) ?_; refine xn rfl (by exact Qt.cast (v' := .int .u64 ((d1 : Nat) : Int)) (congrArg (Value.int .u64) (by rw [hd1.s]; omega)) (q_addU rfl rfl)) ?_; refine xn rfl qm ?_; refine xn rfl (by exact Qt.cast (v' := .int .u64 ((d2 : Nat) : Int)) (congrArg (Value.int .u64) (by rw [hd2.s]; omega)) (q_addU rfl rfl)) ?_; refine xn rfl qa ?_; refine x_nil ?_) | (refine c_region (id := 8) ?_; refine sq qm ?_; refine sq qm ?_; refine se ?_; refine e_q (by first | exact q_extern Try.func78 rfl rfl (by kernel_rfl) (by kernel_rfl) rfl (fun w => run_add64v O O2 0 (by omega) e5 w) | exact q_extern Try.func78 rfl rfl (by kernel_rfl) (by kernel_rfl) rfl (fun w => run_add64v B C k1 (by omega) e6 w) | exact q_extern Try.func78 rfl rfl (by kernel_rfl) (by kernel_rfl) rfl (fun w => run_add64v W p 0 (by omega) e7 w) | exact q_extern Try.func78 rfl rfl (by kernel_rfl) (by kernel_rfl) rfl (fun w => run_add64v o1 A 0 (by omega) e8 w) | exact q_extern Try.func78 rfl rfl (by kernel_rfl) (by kernel_rfl) rfl (fun w => run_add64v t1 b1 k3 (by omega) e9 w)) rfl ?_; refine sq qm ?_; refine sq qe ?_; refine sq qe ?_; refine sq qa ?_; refine sq qa ?_; refine l_nil ?_) | (refine c_region (id := 9) ?_; refine sq qm ?_; refine sq qm ?_; refine sq qm ?_; refine se ?_; refine e_q (by first | exact q_extern Try.func78 rfl rfl (by kernel_rfl) (by kernel_rfl) rfl (fun w => run_add64v O O2 0 (by omega) e5 w) | exact q_extern Try.func78 rfl rfl (by kernel_rfl) (by kernel_rfl) rfl (fun w => run_add64v B C k1 (by omega) e6 w) | exact q_extern Try.func78 rfl rfl (by kernel_rfl) (by kernel_rfl) rfl (fun w => run_add64v W p 0 (by omega) e7 w) | exact q_extern Try.func78 rfl rfl (by kernel_rfl) (by kernel_rfl) rfl (fun w => run_add64v o1 A 0 (by omega) e8 w) | exact q_extern Try.func78 rfl rfl (by kernel_rfl) (by kernel_rfl) rfl (fun w => run_add64v t1 b1 k3 (by omega) e9 w)) rfl ?_; refine sq qm ?_; refine sq qe ?_; refine sq qe ?_; refine sq qa ?_; refine sq qa ?_; refine l_nil ?_) | (refine c_region (id := 10) ?_; refine sq qm ?_; refine sq qm ?_; refine sq (by exact Qt.cast (v' := .int .u64 ((d3 : Nat) : Int)) (congrArg (Value.int .u64) (by rw [hd3.s]; omega)) (q_addU rfl rfl)) ?_; refine sq qa ?_; refine l_nil ?_) | (refine c_region (id := 11) ?_; refine sq qm ?_; refine sq qm ?_; refine sq qm ?_; refine sq qm ?_; refine sq qm ?_; refine sq qm ?_; refine sq (by exact Qt.cast (v' := .int .u64 ((t2 &&& 3 : Nat) : Int)) (congrArg (Value.int .u64) (u64_and_nat t2 3 (by omega) (by omega))) (q_and rfl rfl)) ?_; refine sq qn ?_; refine sq qf ?_; refine se ?_; (first | refine es1 ?_ | refine es2 ?_ | refine es3 ?_); refine sq qn ?_; refine sq qf ?_; refine se ?_; (first | refine es1 ?_ | refine es2 ?_ | refine es3 ?_); refine sq qn ?_; refine sq qf ?_; refine se ?_; (first | refine es1 ?_ | refine es2 ?_ | refine es3 ?_); refine l_nil ?_) | (refine c_region (id := 12) ?_; refine sq qm ?_; refine sq qm ?_; refine sq (by exact Qt.cast (v' := .int .u64 ((t2 &&& (18446744073709551615 - 3) : Nat) : Int)) (congrArg (Value.int .u64) (u64_andNot_nat t2 3 (by omega) (by omega))) (q_andNot rfl rfl)) ?_; refine sq qm ?_; refine se ?_; refine e_call_upd rfl rfl (by kernel_rfl) rfl (fun w hC hm hL => by first | exact add_c g Z o2 (t2 &&& 3) (t2 &&& (18446744073709551615 - 3)) d3 l1 c1 m1 c2 _ _ (by omega) (by omega) (by omega) (by omega) f1 f2 w hL | exact add_c g l1 m1 (((t2 &&& 3) + c2) % 18446744073709551616) u (d3 / 4) l2 c3 m2 c4 _ _ (by omega) (by omega) (by omega) (by omega) f3 f4 w hL) (by (repeat (first | exact Pl.here | apply Pl.there))) (by first | (left; simp; done) | (right; omega)) ?_; intro m' hm'; refine l_nil ?_) | (refine c_region (id := 13) ?_; refine sq qm ?_; refine sq qm ?_; refine sq (by exact Qt.cast (v' := .int .u64 ((t2 / 4 : Nat) : Int)) (congrArg (Value.int .u64) (shr2 t2)) (q_shr rfl rfl (by omega) (by show _ ≤ 64; decide))) ?_; refine sq qm ?_; refine sq (by exact Qt.cast (v' := .int .u64 ((d3 * 4611686018427387904 % 18446744073709551616 : Nat) : Int)) (congrArg (Value.int .u64) (shl62 d3)) (q_shlU rfl rfl (by omega) (by omega))) ?_; refine sq (by exact Qt.cast (v' := .int .u64 ((u : Nat) : Int)) (congrArg (Value.int .u64) (by rw [hu.h]; exact u64_or_nat _ _ (by omega) (by omega))) (q_or rfl rfl)) ?_; refine sq qm ?_; refine sq (by exact Qt.cast (v' := .int .u64 ((d3 / 4 : Nat) : Int)) (congrArg (Value.int .u64) (shr2 d3)) (q_shr rfl rfl (by omega) (by show _ ≤ 64; decide))) ?_; refine se ?_; refine e_call_upd rfl rfl (by kernel_rfl) rfl (fun w hC hm hL => by first | exact add_c g Z o2 (t2 &&& 3) (t2 &&& (18446744073709551615 - 3)) d3 l1 c1 m1 c2 _ _ (by omega) (by omega) (by omega) (by omega) f1 f2 w hL | exact add_c g l1 m1 (((t2 &&& 3) + c2) % 18446744073709551616) u (d3 / 4) l2 c3 m2 c4 _ _ (by omega) (by omega) (by omega) (by omega) f3 f4 w hL) (by (repeat (first | exact Pl.here | apply Pl.there))) (by first | (left; simp; done) | (right; omega)) ?_; intro m' hm'; refine l_nil ?_) | refine n_then ?_ | refine c_block ?_ | refine c_skip ?_ | refine n_block ?_ | refine c_exit ?_ | refine n_then_exit ?_ | refine n_block_eq ?_ | refine n_block_ne rfl ?_ | refine c_ret ?_ | refine n_then_ret ?_ | refine n_block_ret ?_ | refine c_cond_t rfl ?_ | refine c_cond_f rfl ?_ | refine r_succ ?_ )
  (first | apply r_ret () | apply r_end ()); exact rfl; exact rfl; exact .nil; exact rfl; exact (List.Sublist.refl _); exact (new_blk (.inl (by simp)) new_nil); exact trivial
end Go.Proofs.Yteopejjlhmghbaa
namespace Go.Proofs.Yteopejjlhmghbaa
open Go Go.RowKit
set_option linter.unusedVariables false
set_option linter.unusedSimpArgs false
structure TR (l m h rl rh l2 m2 h2 : Nat) : Prop where
  ex : ∃ p0 q0 x1 x2 x3 A Z B O C O2 D W p q o1 k1 b1 kb t1 k2 d1 d2 o2 k3 t2 k4 d3 l1 c1 m1 c2 u c3 c4 : Nat, ME l rl A Z ∧ ME m rl B O ∧ ME l rh C O2 ∧ ME m rh D W ∧ ME h rl p0 p ∧ ME h rh q0 q ∧ AE O O2 0 o1 k1 ∧ AE B C k1 b1 kb ∧ AE W p 0 t1 k2 ∧ AE D q 0 d1 x1 ∧ AE d1 k2 0 d2 x2 ∧ AE o1 A 0 o2 k3 ∧ AE t1 b1 k3 t2 k4 ∧ AE d2 k4 0 d3 x3 ∧ AE Z (t2 &&& (18446744073709551615 - 3)) 0 l1 c1 ∧ AE o2 d3 c1 m1 c2 ∧ EU u t2 d3 ∧ AE l1 u 0 l2 c3 ∧ AE m1 (d3 / 4) c3 m2 c4 ∧ h2 = ((t2 &&& 3) + c2) % 18446744073709551616 + c4 - (((t2 &&& 3) + c2) % 18446744073709551616 + c4) / 18446744073709551616 * 18446744073709551616
theorem TR.total (l m h rl rh : Nat) : ∃ l2 m2 h2, TR l m h rl rh l2 m2 h2 :=
  ⟨_, _, _, ⟨_, _, _, _, _, _, _, _, _, _, _, _, _, _, _, _, _, _, _, _, _, _, _, _, _, _, _, _, _, _, _, _, _, _, _, ⟨rfl, rfl⟩, ⟨rfl, rfl⟩, ⟨rfl, rfl⟩, ⟨rfl, rfl⟩, ⟨rfl, rfl⟩, ⟨rfl, rfl⟩, ⟨rfl, rfl⟩, ⟨rfl, rfl⟩, ⟨rfl, rfl⟩, ⟨rfl, rfl⟩, ⟨rfl, rfl⟩, ⟨rfl, rfl⟩, ⟨rfl, rfl⟩, ⟨rfl, rfl⟩, ⟨rfl, rfl⟩, ⟨rfl, rfl⟩, ⟨rfl⟩, ⟨rfl, rfl⟩, ⟨rfl, rfl⟩, rfl⟩⟩
theorem mod_form (a : Nat) : a - a / 18446744073709551616 * 18446744073709551616 = a % 18446744073709551616 := by omega
theorem TR.lt {l m h rl rh l2 m2 h2 : Nat} (t : TR l m h rl rh l2 m2 h2) : l2 < 18446744073709551616 ∧ m2 < 18446744073709551616 ∧ h2 < 18446744073709551616 := by
  obtain ⟨p0, q0, x1, x2, x3, A, Z, B, O, C, O2, D, W, p, q, o1, k1, b1, kb, t1, k2, d1, d2, o2, k3, t2, k4, d3, l1, c1, m1, c2, u, c3, c4, e1, e2, e3, e4, hp, hq, e5, e6, e7, hd1, hd2, e8, e9, hd3, f1, f2, hu, f3, f4, hh⟩ := t.ex
  rw [mod_form] at hh
  exact ⟨f3.lt, f4.lt, by rw [hh]; exact Nat.mod_lt _ (by omega)⟩
theorem times_r {l m h rl rh l2 m2 h2 : Nat} (t : TR l m h rl rh l2 m2 h2) (g : Nat) (hl : l < 18446744073709551616) (hm0 : m < 18446744073709551616) (hh : h < 18446744073709551616) (hrl : rl < 18446744073709551616) (hrh : rh < 18446744073709551616) (w : World) (hL : Has [.blk g (.cells #[.int .u64 (l : Int), .int .u64 (m : Int), .int .u64 (h : Int), .int .u64 (rl : Int), .int .u64 (rh : Int)] 108 (0, 0))] w) :
    CA Try.prog 79 [.pointer (some ⟨g, 0, none⟩)] w (RU (.tuple #[]) g (.cells #[.int .u64 (l2 : Int), .int .u64 (m2 : Int), .int .u64 (h2 : Int), .int .u64 (rl : Int), .int .u64 (rh : Int)] 108 (0, 0)) w) := by
  obtain ⟨p0, q0, x1, x2, x3, A, Z, B, O, C, O2, D, W, p, q, o1, k1, b1, kb, t1, k2, d1, d2, o2, k3, t2, k4, d3, l1, c1, m1, c2, u, c3, c4, e1, e2, e3, e4, hp, hq, e5, e6, e7, hd1, hd2, e8, e9, hd3, f1, f2, hu, f3, f4, he⟩ := t.ex
  rw [mod_form] at he
  rw [he]
  exact times_c g l m h rl rh p0 q0 x1 x2 x3 A Z B O C O2 D W p q o1 k1 b1 kb t1 k2 d1 d2 o2 k3 t2 k4 d3 l1 c1 m1 c2 u l2 c3 m2 c4 hl hm0 hh hrl hrh e1 e2 e3 e4 hp hq e5 e6 e7 hd1 hd2 e8 e9 hd3 f1 f2 hu f3 f4 w hL
structure KR (bh l m h rl rh W0 W1 l2 m2 h2 : Nat) : Prop where
  ex : ∃ l1 k1 m1 k2 s1 x1 h1 x2 : Nat, AE l W0 0 l1 k1 ∧ AE m W1 k1 m1 k2 ∧ AE bh k2 0 s1 x1 ∧ AE h s1 0 h1 x2 ∧ TR l1 m1 h1 rl rh l2 m2 h2
theorem KR.total (bh l m h rl rh W0 W1 : Nat) : ∃ l2 m2 h2, KR bh l m h rl rh W0 W1 l2 m2 h2 := by
  obtain ⟨l2, m2, h2, t⟩ := TR.total ((l + W0 + 0) % 18446744073709551616) ((m + W1 + (l + W0 + 0) / 18446744073709551616) % 18446744073709551616) ((h + ((bh + (m + W1 + (l + W0 + 0) / 18446744073709551616) / 18446744073709551616 + 0) % 18446744073709551616) + 0) % 18446744073709551616) rl rh
  exact ⟨l2, m2, h2, ⟨_, _, _, _, _, _, _, _, ⟨rfl, rfl⟩, ⟨rfl, rfl⟩, ⟨rfl, rfl⟩, ⟨rfl, rfl⟩, t⟩⟩
theorem KR.lt {bh l m h rl rh W0 W1 l2 m2 h2 : Nat} (t : KR bh l m h rl rh W0 W1 l2 m2 h2) : l2 < 18446744073709551616 ∧ m2 < 18446744073709551616 ∧ h2 < 18446744073709551616 := by
  obtain ⟨_, _, _, _, _, _, _, _, _, _, _, _, t⟩ := t.ex
  exact t.lt
theorem word_v {g o len cap : Nat} (hl : 8 ≤ len) {b0 b1 b2 b3 b4 b5 b6 b7 : Int} (q0 : 0 ≤ b0 ∧ b0 ≤ 255) (q1 : 0 ≤ b1 ∧ b1 ≤ 255) (q2 : 0 ≤ b2 ∧ b2 ≤ 255) (q3 : 0 ≤ b3 ∧ b3 ≤ 255) (q4 : 0 ≤ b4 ∧ b4 ≤ 255) (q5 : 0 ≤ b5 ∧ b5 ≤ 255) (q6 : 0 ≤ b6 ∧ b6 ≤ 255) (q7 : 0 ≤ b7 ∧ b7 ≤ 255) {W : Nat} (hW : le64 b0 b1 b2 b3 b4 b5 b6 b7 = (W : Int)) (w : World) (hO : Old w g o [.int .u8 b0, .int .u8 b1, .int .u8 b2, .int .u8 b3, .int .u8 b4, .int .u8 b5, .int .u8 b6, .int .u8 b7]) :
    CA Try.prog 77 [.slice (some ⟨g, o, none⟩) len cap] w (RV (.int .u64 (W : Int)) w) := by
  rw [← hW]
  exact pword_c hl q0 q1 q2 q3 q4 q5 q6 q7 w hO
theorem Old.drop {w : World} {g o : Nat} {vs : List Value} (h : Old w g o vs) (k : Nat) : Old w g (o + k) (vs.drop k) := ⟨fun j v hj => by
  rw [nth_eq, List.getElem?_drop] at hj
  have := h.cell (k + j) v (by rw [nth_eq]; exact hj)
  rwa [show o + (k + j) = o + k + j by omega] at this⟩
set_option maxRecDepth 100000 in
set_option maxHeartbeats 1000000 in
theorem take_full (g l m h rl rh W0 W1 l2 m2 h2 gb o cap : Nat) (hcap : 16 ≤ cap) (f : Nat → Int) (hf : ∀ i, 0 ≤ f i ∧ f i ≤ 255) (hW0 : le64 (f 0) (f 1) (f 2) (f 3) (f 4) (f 5) (f 6) (f 7) = (W0 : Int)) (hW1 : le64 (f 8) (f 9) (f 10) (f 11) (f 12) (f 13) (f 14) (f 15) = (W1 : Int)) (hw0 : W0 < 18446744073709551616) (hw1 : W1 < 18446744073709551616)
    (t : KR 1 l m h rl rh W0 W1 l2 m2 h2) (hl : l < 18446744073709551616) (hm0 : m < 18446744073709551616) (hh : h < 18446744073709551616) (hrl : rl < 18446744073709551616) (hrh : rh < 18446744073709551616) (hgb : gb ≠ g) (w : World) (hO : Old w gb o [.int .u8 (f 0), .int .u8 (f 1), .int .u8 (f 2), .int .u8 (f 3), .int .u8 (f 4), .int .u8 (f 5), .int .u8 (f 6), .int .u8 (f 7), .int .u8 (f 8), .int .u8 (f 9), .int .u8 (f 10), .int .u8 (f 11), .int .u8 (f 12), .int .u8 (f 13), .int .u8 (f 14), .int .u8 (f 15)]) (hL : Has [.blk g (.cells #[.int .u64 (l : Int), .int .u64 (m : Int), .int .u64 (h : Int), .int .u64 (rl : Int), .int .u64 (rh : Int)] 108 (0, 0))] w) :
    CA Try.prog 68 [.pointer (some ⟨g, 0, none⟩), .slice (some ⟨gb, o, none⟩) 16 cap] w (RU (.tuple #[]) g (.cells #[.int .u64 (l2 : Int), .int .u64 (m2 : Int), .int .u64 (h2 : Int), .int .u64 (rl : Int), .int .u64 (rh : Int)] 108 (0, 0)) w) := by
  obtain ⟨l1, k1, m1, k2, s1, x1, h1, x2, e1, e2, e3, e4, tr⟩ := t.ex
  have hk1 := e1.le hl hw0 (by omega)
  have hl1 := e1.lt
  have hm1 := e2.lt
  have hh1 := e4.lt
  have hO8 := hO.drop 8
  refine enter (L := _) (X := [g]) Try.func68 rfl Try.ntmps68 rfl rfl hL ?_
  repeat (first | refine c_seq ?_ | (refine c_region (id := 0) ?_; refine se ?_; refine ea ?_; refine l_nil ?_) | (refine c_region (id := 1) ?_; refine sq qa ?_; refine l_nil ?_) | (refine c_region (id := 2) ?_; refine sq qm ?_; refine sq qls ?_; refine sq (by first | exact dlsst | exact dlssf) ?_; refine sq qa ?_; refine l_nil ?_) | (refine c_region (id := 4) ?_; refine sq qm ?_; refine sq qls ?_; refine sq qia ?_; refine se ?_; (first | refine es1 ?_ | refine es2 ?_ | refine es3 ?_); refine l_nil ?_) | (refine c_region (id := 5) ?_; refine sq qa ?_; refine l_nil ?_) | (refine c_region (id := 6) ?_; refine sq qsa ?_; refine sq qa ?_; refine l_nil ?_) | (refine c_region (id := 7) ?_; refine sq qa ?_; refine l_nil ?_) | (refine x_region (id := 8) (some 8) [(0, .n), (1, .n), (2, .n), (3, .n), (4, .q), (5, .n), (6, .n), (7, .e), (8, .b), (9, .n), (10, .n), (11, .n), (12, .n), (13, .n), (14, .e), (15, .n)] _ mixed (by kernel_rfl) (List.Sublist.refl _) ?_; refine xn rfl qm ?_; refine xn rfl qm ?_; refine xn rfl qn ?_; refine xn rfl qf ?_; refine xq rfl ql ?_; refine xn rfl qm ?_; refine xn rfl (by exact q_slice (b' := some ⟨gb, o, none⟩) (len' := 8) (cap' := cap) rfl rfl rfl (by omega) (by omega) (by omega) (by omega) (by rw [if_neg (by omega)]; simp [Addr.add_mid]) (by simp) (by simp)) ?_; refine x_e rfl ?_; refine ecp rfl rfl (fun w hC hm hL => by first | exact word_v (by omega) (hf _) (hf _) (hf _) (hf _) (hf _) (hf _) (hf _) (hf _) hW0 w ((hO.take 8).ch hC (by simpa using hgb)) | exact word_v (by omega) (hf _) (hf _) (hf _) (hf _) (hf _) (hf _) (hf _) (hf _) hW1 w ((hO8.take 8).ch hC (by simpa using hgb))) ?_; intro m' hm'; refine xk ?_; refine x_b rfl ?_; refine e_q (by first | exact q_extern Try.func78 rfl rfl (by kernel_rfl) (by kernel_rfl) rfl (fun w => run_add64v l W0 0 (by omega) e1 w) | exact q_extern Try.func78 rfl rfl (by kernel_rfl) (by kernel_rfl) rfl (fun w => run_add64v m W1 k1 (by omega) e2 w)) rfl ?_; refine x_k (List.nil_sublist _) ?_; refine xn rfl qm ?_; refine xn rfl qe ?_; refine xn rfl qe ?_; refine xn rfl qn ?_; refine xn rfl qf ?_; refine x_e rfl ?_; (first | refine es1 ?_ | refine es2 ?_ | refine es3 ?_); refine xk ?_; refine xn rfl qa ?_; refine x_nil ?_) | (refine x_region (id := 9) (some 9) [(0, .n), (1, .n), (2, .n), (3, .n), (4, .q), (5, .n), (6, .n), (8, .n), (7, .e), (9, .b), (10, .n), (11, .n), (12, .n), (13, .n), (14, .n), (15, .e), (16, .n)] _ mixed (by kernel_rfl) (List.Sublist.refl _) ?_; refine xn rfl qm ?_; refine xn rfl qm ?_; refine xn rfl qn ?_; refine xn rfl qf ?_; refine xq rfl ql ?_; refine xn rfl qm ?_; refine xn rfl (by exact q_slice (b' := some ⟨gb, o + 8, none⟩) (len' := 8) (cap' := cap - 8) rfl rfl rfl (by omega) (by omega) (by omega) (by omega) (by rw [if_neg (by omega)]; simp [Addr.add_mid]) (by simp) (by simp)) ?_; refine xn rfl qm ?_; refine x_e rfl ?_; refine ecp rfl rfl (fun w hC hm hL => by first | exact word_v (by omega) (hf _) (hf _) (hf _) (hf _) (hf _) (hf _) (hf _) (hf _) hW0 w ((hO.take 8).ch hC (by simpa using hgb)) | exact word_v (by omega) (hf _) (hf _) (hf _) (hf _) (hf _) (hf _) (hf _) (hf _) hW1 w ((hO8.take 8).ch hC (by simpa using hgb))) ?_; intro m' hm'; refine xk ?_; refine x_b rfl ?_; refine e_q (by first | exact q_extern Try.func78 rfl rfl (by kernel_rfl) (by kernel_rfl) rfl (fun w => run_add64v l W0 0 (by omega) e1 w) | exact q_extern Try.func78 rfl rfl (by kernel_rfl) (by kernel_rfl) rfl (fun w => run_add64v m W1 k1 (by omega) e2 w)) rfl ?_; refine x_k (List.nil_sublist _) ?_; refine xn rfl qm ?_; refine xn rfl qe ?_; refine xn rfl qe ?_; refine xn rfl qn ?_; refine xn rfl qf ?_; refine x_e rfl ?_; (first | refine es1 ?_ | refine es2 ?_ | refine es3 ?_); refine xk ?_; refine xn rfl qa ?_; refine x_nil ?_) | (refine c_region (id := 10) ?_; refine sq qm ?_; refine sq qn ?_; refine sq qf ?_; refine sq ql ?_; refine sq qm ?_; refine sq qm ?_; refine sq (by exact Qt.cast (v' := .int .u64 ((s1 : Nat) : Int)) (congrArg (Value.int .u64) (by rw [e3.s]; omega)) (q_addU rfl rfl)) ?_; refine sq (by exact Qt.cast (v' := .int .u64 ((h1 : Nat) : Int)) (congrArg (Value.int .u64) (by rw [e4.s]; omega)) (q_addU rfl rfl)) ?_; refine sq qn ?_; refine sq qf ?_; refine se ?_; (first | refine es1 ?_ | refine es2 ?_ | refine es3 ?_); refine l_nil ?_) | (refine c_region (id := 11) ?_; refine sq qm ?_; refine se ?_; refine e_call_upd rfl rfl (by kernel_rfl) rfl (fun w hC hm hL => by exact times_r tr g hl1 hm1 hh1 hrl hrh w (hL.sub (by (repeat (first | exact List.nil_sublist _ | exact List.Sublist.slnil | apply List.Sublist.cons_cons | exact List.Sublist.refl _ | apply List.Sublist.cons))))) (by (repeat (first | exact Pl.here | apply Pl.there))) (by first | (left; simp; done) | (right; omega)) ?_; intro m' hm'; refine l_nil ?_) | refine n_then ?_ | refine c_block ?_ | refine c_skip ?_ | refine n_block ?_ | refine c_exit ?_ | refine n_then_exit ?_ | refine n_block_eq ?_ | refine n_block_ne rfl ?_ | refine c_ret ?_ | refine n_then_ret ?_ | refine n_block_ret ?_ | refine c_cond_t rfl ?_ | refine c_cond_f rfl ?_ | refine r_succ ?_ )
  (first | apply r_ret () | apply r_end ()); exact rfl; exact rfl; exact .nil; exact rfl; exact (by (repeat (first | exact List.nil_sublist _ | exact List.Sublist.slnil | apply List.Sublist.cons_cons | exact List.Sublist.refl _ | apply List.Sublist.cons))); exact (new_blk (.inl (by simp)) new_nil); exact trivial
end Go.Proofs.Yteopejjlhmghbaa
namespace Go.Proofs.Yteopejjlhmghbaa
open Go Go.RowKit
set_option linter.unusedVariables false
set_option linter.unusedSimpArgs false
def rL (kb : Nat → Int) : Int := bits .and .u64 (le64 (kb 0) (kb 1) (kb 2) (kb 3) (kb 4) (kb 5) (kb 6) (kb 7)) 1152921487695413247
def rH (kb : Nat → Int) : Int := bits .and .u64 (le64 (kb 8) (kb 9) (kb 10) (kb 11) (kb 12) (kb 13) (kb 14) (kb 15)) 1152921487695413244
set_option maxRecDepth 100000 in
set_option maxHeartbeats 4000000 in
theorem pbegin_c (kb : Nat → Int) (hk : ∀ i, 0 ≤ kb i ∧ kb i ≤ 255) (w : World) :
    CA Try.prog 67 [.agg (keyA kb)] w (RV (.agg #[.int .u64 0, .int .u64 0, .int .u64 0, .int .u64 (rL kb), .int .u64 (rH kb)]) w) := by
  refine enter (L := []) (X := []) Try.func67 rfl Try.ntmps67 rfl rfl (Has.nil _) ?_
  repeat (first | refine c_seq ?_ | (refine c_region (id := 0) ?_; refine se ?_; refine eb ?_; refine se ?_; refine ea ?_; refine l_nil ?_) | (refine x_region (id := 1) (some 1) [(0, .n), (3, .n), (1, .b), (2, .n), (4, .e), (5, .n), (6, .n), (7, .e)] _ mixed (by kernel_rfl) (List.Sublist.refl _) ?_; refine xn rfl qsa ?_; refine xn rfl qsa ?_; refine x_b rfl ?_; refine ecp rfl rfl (fun w hC hm hL => by exact pword_c (by omega) (hk _) (hk _) (hk _) (hk _) (hk _) (hk _) (hk _) (hk _) w (hL.old (k := 8) (by (repeat (first | exact List.Mem.head _ | apply List.Mem.tail))) (by rfl))) ?_; intro m' hm'; refine x_k (List.nil_sublist _) ?_; refine xn rfl qand ?_; refine x_e rfl ?_; refine ecp rfl rfl (fun w hC hm hL => by exact pword_c (by omega) (hk _) (hk _) (hk _) (hk _) (hk _) (hk _) (hk _) (hk _) w (hL.old (k := 8) (by (repeat (first | exact List.Mem.head _ | apply List.Mem.tail))) (by rfl))) ?_; intro m' hm'; refine xk ?_; refine xn rfl qand ?_; refine xn rfl qbs ?_; refine x_e rfl ?_; refine esa ?_; refine xk ?_; refine x_nil ?_) | refine n_then ?_ | refine c_block ?_ | refine c_skip ?_ | refine n_block ?_ | refine c_exit ?_ | refine n_then_exit ?_ | refine n_block_eq ?_ | refine n_block_ne rfl ?_ | refine c_ret ?_ | refine n_then_ret ?_ | refine n_block_ret ?_ | refine c_cond_t rfl ?_ | refine c_cond_f rfl ?_ | refine r_succ ?_ )
  (first | apply r_ret () | apply r_end ()); exact rfl; exact rfl; exact (.row rfl (by (repeat (first | exact List.Mem.head _ | apply List.Mem.tail))) (by rfl) .nil); exact rfl; exact (List.nil_sublist _); exact new_nil; exact trivial
def eb0 (l : Nat) : Nat := if l < 18446744073709551611 + 0 then 1 else 0
def peb1 (l m : Nat) : Nat := if m < 18446744073709551615 + eb0 l then 1 else 0
def eb2 (l m h : Nat) : Nat := if h < 3 + peb1 l m then 1 else 0
theorem eb0_le (l : Nat) : eb0 l ≤ 1 := by unfold eb0; split <;> omega
theorem eb1_le (l m : Nat) : peb1 l m ≤ 1 := by unfold peb1; split <;> omega
def elo (l m h : Nat) : Nat := if eb2 l m h = 1 then l else (l + 18446744073709551616 - 18446744073709551611 - 0) % 18446744073709551616
def pemi (l m h : Nat) : Nat := if eb2 l m h = 1 then m else (m + 18446744073709551616 - 18446744073709551615 - eb0 l) % 18446744073709551616
theorem elo_lt (l m h : Nat) (hl : l < 18446744073709551616) : elo l m h < 18446744073709551616 := by unfold elo; split <;> omega
theorem emi_lt (l m h : Nat) (hm : m < 18446744073709551616) : pemi l m h < 18446744073709551616 := by unfold pemi; split <;> omega
def byt64 (x : Int) (i : Nat) : Int := x / 2 ^ (8 * i) % 256
def cLo (a : Nat) (kb : Nat → Int) : Int := ((a : Int) + le64 (kb 16) (kb 17) (kb 18) (kb 19) (kb 20) (kb 21) (kb 22) (kb 23) + 0) % 18446744073709551616
def cHi (a b : Nat) (kb : Nat → Int) : Int := ((b : Int) + le64 (kb 24) (kb 25) (kb 26) (kb 27) (kb 28) (kb 29) (kb 30) (kb 31) + ((a : Int) + le64 (kb 16) (kb 17) (kb 18) (kb 19) (kb 20) (kb 21) (kb 22) (kb 23) + 0) / 18446744073709551616) % 18446744073709551616
def codeA (x y : Int) : Array Value := #[.int .u8 (byt64 x 0), .int .u8 (byt64 x 1), .int .u8 (byt64 x 2), .int .u8 (byt64 x 3), .int .u8 (byt64 x 4), .int .u8 (byt64 x 5), .int .u8 (byt64 x 6), .int .u8 (byt64 x 7), .int .u8 (byt64 y 0), .int .u8 (byt64 y 1), .int .u8 (byt64 y 2), .int .u8 (byt64 y 3), .int .u8 (byt64 y 4), .int .u8 (byt64 y 5), .int .u8 (byt64 y 6), .int .u8 (byt64 y 7)]
theorem le64_bd {b0 b1 b2 b3 b4 b5 b6 b7 : Int} (q0 : 0 ≤ b0 ∧ b0 ≤ 255) (q1 : 0 ≤ b1 ∧ b1 ≤ 255) (q2 : 0 ≤ b2 ∧ b2 ≤ 255) (q3 : 0 ≤ b3 ∧ b3 ≤ 255) (q4 : 0 ≤ b4 ∧ b4 ≤ 255) (q5 : 0 ≤ b5 ∧ b5 ≤ 255) (q6 : 0 ≤ b6 ∧ b6 ≤ 255) (q7 : 0 ≤ b7 ∧ b7 ≤ 255) : 0 ≤ le64 b0 b1 b2 b3 b4 b5 b6 b7 ∧ le64 b0 b1 b2 b3 b4 b5 b6 b7 < 18446744073709551616 := by unfold le64; omega
set_option maxRecDepth 100000 in
set_option maxHeartbeats 4000000 in
theorem pend_c (kb : Nat → Int) (hk : ∀ i, 0 ≤ kb i ∧ kb i ≤ 255) (l m hh : Nat) (hl : l < 18446744073709551616) (hm0 : m < 18446744073709551616) (r0 r1 : Int) (g : Nat) (w : World) (hL0 : Has [.blk g (.cells #[.int .u64 l, .int .u64 m, .int .u64 hh, .int .u64 r0, .int .u64 r1] 108 (0, 0))] w) :
    CA Try.prog 69 [.pointer (some ⟨g, 0, none⟩), .agg (keyA kb)] w (RV (.agg (codeA (cLo (elo l m hh) kb) (cHi (elo l m hh) (pemi l m hh) kb))) w) := by
  have hb0 := eb0_le l
  have hb1 := eb1_le l m
  have hw2 := le64_bd (hk 16) (hk 17) (hk 18) (hk 19) (hk 20) (hk 21) (hk 22) (hk 23)
  have hw3 := le64_bd (hk 24) (hk 25) (hk 26) (hk 27) (hk 28) (hk 29) (hk 30) (hk 31)
  have hq := elo_lt l m hh hl
  refine enter (L := _) (X := []) Try.func69 rfl Try.ntmps69 rfl rfl hL0 ?_
  repeat (first | refine c_seq ?_ | (refine c_region (id := 0) ?_; refine se ?_; refine eb ?_; refine se ?_; refine ea ?_; refine l_nil ?_) | (refine c_region (id := 1) ?_; refine sq qm ?_; refine sq qn ?_; refine sq qf ?_; refine sq ql ?_; refine se ?_; refine e_q (by first | exact q_extern Try.func80 rfl rfl (by kernel_rfl) (by kernel_rfl) rfl (fun w => run_sub64 l 18446744073709551611 0 (by omega) w) | exact q_extern Try.func80 rfl rfl (by kernel_rfl) (by kernel_rfl) rfl (fun w => run_sub64 m 18446744073709551615 (eb0 l) (by omega) w) | exact q_extern Try.func80 rfl rfl (by kernel_rfl) (by kernel_rfl) rfl (fun w => run_sub64 hh 3 (peb1 l m) (by omega) w)) rfl ?_; refine sq qm ?_; refine sq qe ?_; refine sq qe ?_; refine sq qa ?_; refine sq qa ?_; refine l_nil ?_) | (refine c_region (id := 2) ?_; refine sq qm ?_; refine sq qn ?_; refine sq qf ?_; refine sq ql ?_; refine sq qm ?_; refine se ?_; refine e_q (by first | exact q_extern Try.func80 rfl rfl (by kernel_rfl) (by kernel_rfl) rfl (fun w => run_sub64 l 18446744073709551611 0 (by omega) w) | exact q_extern Try.func80 rfl rfl (by kernel_rfl) (by kernel_rfl) rfl (fun w => run_sub64 m 18446744073709551615 (eb0 l) (by omega) w) | exact q_extern Try.func80 rfl rfl (by kernel_rfl) (by kernel_rfl) rfl (fun w => run_sub64 hh 3 (peb1 l m) (by omega) w)) rfl ?_; refine sq qm ?_; refine sq qe ?_; refine sq qe ?_; refine sq qa ?_; refine sq qa ?_; refine l_nil ?_) | (refine c_region (id := 3) ?_; refine sq qm ?_; refine sq qn ?_; refine sq qf ?_; refine sq ql ?_; refine sq qm ?_; refine se ?_; refine e_q (by first | exact q_extern Try.func80 rfl rfl (by kernel_rfl) (by kernel_rfl) rfl (fun w => run_sub64 l 18446744073709551611 0 (by omega) w) | exact q_extern Try.func80 rfl rfl (by kernel_rfl) (by kernel_rfl) rfl (fun w => run_sub64 m 18446744073709551615 (eb0 l) (by omega) w) | exact q_extern Try.func80 rfl rfl (by kernel_rfl) (by kernel_rfl) rfl (fun w => run_sub64 hh 3 (peb1 l m) (by omega) w)) rfl ?_; refine sq qm ?_; refine sq qe ?_; refine sq qe ?_; refine sq qa ?_; refine l_nil ?_) | (refine c_region (id := 4) ?_; refine sq qm ?_; refine sq qeql ?_; refine l_nil ?_) | refine n_then ?_ | refine c_block ?_ | refine c_skip ?_ | refine n_block ?_ | refine c_exit ?_ | refine n_then_exit ?_ | refine n_block_eq ?_ | refine n_block_ne rfl ?_ | refine c_ret ?_ | refine n_then_ret ?_ | refine n_block_ret ?_ | refine c_cond_t rfl ?_ | refine c_cond_f rfl ?_ | refine r_succ ?_ )
  refine c_cond_eq rfl (fun h => ?_) (fun h => ?_)
  · have he : eb2 l m hh = 1 := by have h9 : ((eb2 l m hh : Nat) : Int) = 1 := h; omega
    have e1 : elo l m hh = l := by unfold elo; rw [if_pos he]
    have e2 : pemi l m hh = m := by unfold pemi; rw [if_pos he]
    repeat (first | refine c_rounds 9 ?_ | refine c_seq ?_ | (refine x_region (id := 5) none [(0, .n), (1, .n), (2, .n), (3, .q), (4, .n), (5, .n), (6, .n), (7, .q), (8, .n), (9, .n)] _ mixed (by kernel_rfl) (List.Sublist.refl _) ?_; refine xn rfl qm ?_; refine xn rfl qn ?_; refine xn rfl qf ?_; refine xq rfl ql ?_; refine xn rfl qm ?_; refine xn rfl qn ?_; refine xn rfl qf ?_; refine xq rfl ql ?_; refine xn rfl qa ?_; refine xn rfl qa ?_; refine x_nil ?_) | (refine c_region (id := 6) ?_; refine sq qm ?_; refine sq qsa ?_; refine se ?_; refine ecp rfl rfl (fun w hC hm hL => by exact pword_c (by omega) (hk _) (hk _) (hk _) (hk _) (hk _) (hk _) (hk _) (hk _) w (hL.old (k := 8) (by (repeat (first | exact List.Mem.head _ | apply List.Mem.tail))) (by rfl))) ?_; intro m' hm'; refine se ?_; refine e_q (by exact q_extern Try.func78 rfl rfl (by kernel_rfl) (by kernel_rfl) rfl (fun w => run_add64 _ _ _ (by omega) (by omega) (by omega) (by omega) w)) rfl ?_; refine sq qm ?_; refine sq qe ?_; refine sq qe ?_; refine sq qa ?_; refine sq qa ?_; refine l_nil ?_) | (refine c_region (id := 7) ?_; refine sq qm ?_; refine sq qsa ?_; refine se ?_; refine ecp rfl rfl (fun w hC hm hL => by exact pword_c (by omega) (hk _) (hk _) (hk _) (hk _) (hk _) (hk _) (hk _) (hk _) w (hL.old (k := 8) (by (repeat (first | exact List.Mem.head _ | apply List.Mem.tail))) (by rfl))) ?_; intro m' hm'; refine sq qm ?_; refine se ?_; refine e_q (by exact q_extern Try.func78 rfl rfl (by kernel_rfl) (by kernel_rfl) rfl (fun w => run_add64 _ _ _ (by omega) (by omega) (by omega) (by omega) w)) rfl ?_; refine sq qm ?_; refine sq qe ?_; refine sq qe ?_; refine sq qa ?_; refine l_nil ?_) | (refine c_region (id := 8) ?_; refine se ?_; refine ea ?_; refine l_nil ?_) | (refine c_region (id := 9) ?_; refine sq qm ?_; refine l_nil ?_) | (refine c_region (id := 10) ?_; refine sq qlss ?_; refine l_nil ?_) | (refine c_region (id := 11) ?_; refine sq qm ?_; refine sq qa ?_; refine l_nil ?_) | (refine c_region (id := 12) ?_; refine sq qm ?_; refine sq qm ?_; refine sq qm ?_; refine sq qmul64 ?_; refine sq qshr ?_; refine sq qc8 ?_; refine sq qia ?_; refine se ?_; (first | refine es1 ?_ | refine es2 ?_ | refine es3 ?_); refine l_nil ?_) | (refine c_region (id := 13) ?_; refine sq qm ?_; refine sq qadd64 ?_; refine sq qm ?_; refine sq qm ?_; refine sq qmul64 ?_; refine sq qshr ?_; refine sq qc8 ?_; refine sq qia ?_; refine se ?_; (first | refine es1 ?_ | refine es2 ?_ | refine es3 ?_); refine l_nil ?_) | (refine c_region (id := 14) ?_; refine sq qadd64 ?_; refine sq qm ?_; refine l_nil ?_) | (refine c_region (id := 15) ?_; refine sq (by first | exact qlb | exact qlr) ?_; refine se ?_; refine esa ?_; refine l_nil ?_) | refine n_then ?_ | refine c_block ?_ | refine c_skip ?_ | refine n_block ?_ | refine c_exit ?_ | refine n_then_exit ?_ | refine n_block_eq ?_ | refine n_block_ne rfl ?_ | refine c_ret ?_ | refine n_then_ret ?_ | refine n_block_ret ?_ | refine c_cond_t rfl ?_ | refine c_cond_f rfl ?_ | refine r_succ ?_ )
    (first | apply r_ret () | apply r_end ()); exact rfl; exact rfl; exact (.row rfl (by (repeat (first | exact List.Mem.head _ | apply List.Mem.tail))) (by rfl) .nil); exact (by rw [e1, e2]; rfl); exact (List.nil_sublist _); exact new_nil; exact trivial
  · have he : ¬ eb2 l m hh = 1 := by intro h8; apply h; show ((eb2 l m hh : Nat) : Int) = 1; omega
    have e1 : elo l m hh = (l + 18446744073709551616 - 18446744073709551611 - 0) % 18446744073709551616 := by unfold elo; rw [if_neg he]
    have e2 : pemi l m hh = (m + 18446744073709551616 - 18446744073709551615 - eb0 l) % 18446744073709551616 := by unfold pemi; rw [if_neg he]
    have g1 := elo_lt l m hh hl
    rw [e1] at g1
    have g2 := emi_lt l m hh hm0
    rw [e2] at g2
    repeat (first | refine c_rounds 9 ?_ | refine c_seq ?_ | (refine x_region (id := 5) none [(0, .n), (1, .n), (2, .n), (3, .q), (4, .n), (5, .n), (6, .n), (7, .q), (8, .n), (9, .n)] _ mixed (by kernel_rfl) (List.Sublist.refl _) ?_; refine xn rfl qm ?_; refine xn rfl qn ?_; refine xn rfl qf ?_; refine xq rfl ql ?_; refine xn rfl qm ?_; refine xn rfl qn ?_; refine xn rfl qf ?_; refine xq rfl ql ?_; refine xn rfl qa ?_; refine xn rfl qa ?_; refine x_nil ?_) | (refine c_region (id := 6) ?_; refine sq qm ?_; refine sq qsa ?_; refine se ?_; refine ecp rfl rfl (fun w hC hm hL => by exact pword_c (by omega) (hk _) (hk _) (hk _) (hk _) (hk _) (hk _) (hk _) (hk _) w (hL.old (k := 8) (by (repeat (first | exact List.Mem.head _ | apply List.Mem.tail))) (by rfl))) ?_; intro m' hm'; refine se ?_; refine e_q (by exact q_extern Try.func78 rfl rfl (by kernel_rfl) (by kernel_rfl) rfl (fun w => run_add64 _ _ _ (by omega) (by omega) (by omega) (by omega) w)) rfl ?_; refine sq qm ?_; refine sq qe ?_; refine sq qe ?_; refine sq qa ?_; refine sq qa ?_; refine l_nil ?_) | (refine c_region (id := 7) ?_; refine sq qm ?_; refine sq qsa ?_; refine se ?_; refine ecp rfl rfl (fun w hC hm hL => by exact pword_c (by omega) (hk _) (hk _) (hk _) (hk _) (hk _) (hk _) (hk _) (hk _) w (hL.old (k := 8) (by (repeat (first | exact List.Mem.head _ | apply List.Mem.tail))) (by rfl))) ?_; intro m' hm'; refine sq qm ?_; refine se ?_; refine e_q (by exact q_extern Try.func78 rfl rfl (by kernel_rfl) (by kernel_rfl) rfl (fun w => run_add64 _ _ _ (by omega) (by omega) (by omega) (by omega) w)) rfl ?_; refine sq qm ?_; refine sq qe ?_; refine sq qe ?_; refine sq qa ?_; refine l_nil ?_) | (refine c_region (id := 8) ?_; refine se ?_; refine ea ?_; refine l_nil ?_) | (refine c_region (id := 9) ?_; refine sq qm ?_; refine l_nil ?_) | (refine c_region (id := 10) ?_; refine sq qlss ?_; refine l_nil ?_) | (refine c_region (id := 11) ?_; refine sq qm ?_; refine sq qa ?_; refine l_nil ?_) | (refine c_region (id := 12) ?_; refine sq qm ?_; refine sq qm ?_; refine sq qm ?_; refine sq qmul64 ?_; refine sq qshr ?_; refine sq qc8 ?_; refine sq qia ?_; refine se ?_; (first | refine es1 ?_ | refine es2 ?_ | refine es3 ?_); refine l_nil ?_) | (refine c_region (id := 13) ?_; refine sq qm ?_; refine sq qadd64 ?_; refine sq qm ?_; refine sq qm ?_; refine sq qmul64 ?_; refine sq qshr ?_; refine sq qc8 ?_; refine sq qia ?_; refine se ?_; (first | refine es1 ?_ | refine es2 ?_ | refine es3 ?_); refine l_nil ?_) | (refine c_region (id := 14) ?_; refine sq qadd64 ?_; refine sq qm ?_; refine l_nil ?_) | (refine c_region (id := 15) ?_; refine sq (by first | exact qlb | exact qlr) ?_; refine se ?_; refine esa ?_; refine l_nil ?_) | refine n_then ?_ | refine c_block ?_ | refine c_skip ?_ | refine n_block ?_ | refine c_exit ?_ | refine n_then_exit ?_ | refine n_block_eq ?_ | refine n_block_ne rfl ?_ | refine c_ret ?_ | refine n_then_ret ?_ | refine n_block_ret ?_ | refine c_cond_t rfl ?_ | refine c_cond_f rfl ?_ | refine r_succ ?_ )
    (first | apply r_ret () | apply r_end ()); exact rfl; exact rfl; exact (.row rfl (by (repeat (first | exact List.Mem.head _ | apply List.Mem.tail))) (by rfl) .nil); exact (by rw [e1, e2]; rfl); exact (List.nil_sublist _); exact new_nil; exact trivial
end Go.Proofs.Yteopejjlhmghbaa
namespace Go.Proofs.Yteopejjlhmghbaa
open Go Go.RowKit
set_option linter.unusedVariables false
set_option linter.unusedSimpArgs false
def P130 : Nat := 1361129467683753853853498429727072845819
def N3 (l m h : Nat) : Nat := l + m * 18446744073709551616 + h * 340282366920938463463374607431768211456
theorem AE.eq {x y c s q : Nat} (h : AE x y c s q) : x + y + c = s + 18446744073709551616 * q ∧ s < 18446744073709551616 := by
  obtain ⟨h1, h2⟩ := h; subst h1; subst h2; omega
theorem ME.eq {x y A B : Nat} (h : ME x y A B) : x * y = B + 18446744073709551616 * A ∧ B < 18446744073709551616 := by
  obtain ⟨h1, h2⟩ := h; subst h1; subst h2; generalize x * y = z; omega
theorem and3 (t : Nat) : t &&& 3 = t % 4 := Nat.and_two_pow_sub_one_eq_mod t 2
theorem and_hi (t : Nat) (h : t < 18446744073709551616) : t &&& (18446744073709551615 - 3) = 4 * (t / 4) := by
  have e : (18446744073709551615 - 3 : Nat) = 2 ^ 2 * (2 ^ 62 - 1) := by decide
  have e2 : (4 : Nat) * (t / 4) = 2 ^ 2 * (t / 2 ^ 2) := by simp
  rw [e, e2]
  apply Nat.eq_of_testBit_eq
  intro i
  rw [Nat.testBit_and, Nat.testBit_two_pow_mul, Nat.testBit_two_pow_mul, Nat.testBit_two_pow_sub_one, Nat.testBit_div_two_pow]
  by_cases h2 : 2 ≤ i
  · simp only [h2, decide_true, Bool.true_and, Nat.sub_add_cancel h2]
    by_cases h3 : i - 2 < 62
    · simp [h3]
    · have : t.testBit i = false := Nat.testBit_lt_two_pow (Nat.lt_of_lt_of_le h (by
        have : (2:Nat) ^ 64 ≤ 2 ^ i := Nat.pow_le_pow_right (by omega) (by omega)
        exact this))
      simp [this]
  · simp [h2]
theorem or_u (a d : Nat) (h : a < 4611686018427387904) : (a ||| d * 4611686018427387904 % 18446744073709551616) = a + d % 4 * 4611686018427387904 := by
  have e : d * 4611686018427387904 % 18446744073709551616 = 2 ^ 62 * (d % 4) := by omega
  rw [e, Nat.or_comm, ← Nat.two_pow_add_eq_or_of_lt (by exact h)]
  omega
theorem prod6 (l m h rl rh B : Nat) : (l + m * B + h * (B * B)) * (rl + rh * B) = l * rl + (m * rl + l * rh) * B + (h * rl + m * rh) * (B * B) + h * rh * (B * B * B) := by
  simp only [Nat.add_mul, Nat.mul_add]
  simp only [Nat.mul_assoc, Nat.mul_left_comm, Nat.mul_comm, Nat.add_assoc, Nat.add_left_comm, Nat.add_comm]
theorem car1 {x y c s q : Nat} (h : x + y + c = s + 18446744073709551616 * q ∧ s < 18446744073709551616) (hx : x < 18446744073709551616) (hy : y < 18446744073709551616) (hc : c ≤ 1) : q ≤ 1 := by omega
theorem car0 {x y c s q : Nat} (h : x + y + c = s + 18446744073709551616 * q ∧ s < 18446744073709551616) (hb : x + y + c < 18446744073709551616) : q = 0 := by omega
theorem mec0 {x s q : Nat} (h : x = s + 18446744073709551616 * q ∧ s < 18446744073709551616) (hb : x < 18446744073709551616) : q = 0 := by omega
theorem mecB {x s q : Nat} (h : x = s + 18446744073709551616 * q ∧ s < 18446744073709551616) (hb : x ≤ 18446744073709551615 * 1152921504606846975) : q < 1152921504606846976 := by omega
theorem tv1 {g1 g2 g3 g4 g5 g6 Z A O B O2 C W D o1 k1 b1 t1 k2 o2 k3 t2 k4 d1 d2 d3 p q : Nat}
    (e1 : g1 = Z + 18446744073709551616 * A) (e2 : g2 = O + 18446744073709551616 * B) (e3 : g3 = O2 + 18446744073709551616 * C) (e4 : g4 = W + 18446744073709551616 * D) (hp : g5 = p + 18446744073709551616 * 0) (hq : g6 = q + 18446744073709551616 * 0)
    (e5 : O + O2 + 0 = o1 + 18446744073709551616 * k1) (e6 : B + C + k1 = b1 + 18446744073709551616 * 0) (e7 : W + p + 0 = t1 + 18446744073709551616 * k2) (hd1 : D + q + 0 = d1 + 18446744073709551616 * 0) (hd2 : d1 + k2 + 0 = d2 + 18446744073709551616 * 0)
    (e8 : o1 + A + 0 = o2 + 18446744073709551616 * k3) (e9 : t1 + b1 + k3 = t2 + 18446744073709551616 * k4) (hd3 : d2 + k4 + 0 = d3 + 18446744073709551616 * 0) :
    g1 + (g2 + g3) * 18446744073709551616 + (g5 + g4) * 340282366920938463463374607431768211456 + g6 * 6277101735386680763835789423207666416102355444464034512896 = Z + 18446744073709551616 * o2 + 340282366920938463463374607431768211456 * t2 + 6277101735386680763835789423207666416102355444464034512896 * d3 := by omega
theorem tv2 {Z o2 ta tb da db l1 c1 m1 c2 u l2 c3 m2 c4 h2 : Nat} (f1 : Z + 4 * ta + 0 = l1 + 18446744073709551616 * c1) (f2 : o2 + (4 * da + db) + c1 = m1 + 18446744073709551616 * c2) (hu : u = ta + db * 4611686018427387904) (f3 : l1 + u + 0 = l2 + 18446744073709551616 * c3) (f4 : m1 + da + c3 = m2 + 18446744073709551616 * c4) (hh : h2 = tb + c2 + c4) :
    Z + 18446744073709551616 * o2 + 340282366920938463463374607431768211456 * (4 * ta + tb) + 6277101735386680763835789423207666416102355444464034512896 * (4 * da + db) = l2 + m2 * 18446744073709551616 + h2 * 340282366920938463463374607431768211456 + 1361129467683753853853498429727072845819 * (ta + (4 * da + db) * 4611686018427387904) := by omega
theorem TR.val {l m h rl rh l2 m2 h2 : Nat} (t : TR l m h rl rh l2 m2 h2) (hl : l < 18446744073709551616) (hm : m < 18446744073709551616) (hh : h ≤ 7) (hrl : rl < 1152921504606846976) (hrh : rh < 1152921504606846976) :
    ∃ q, N3 l m h * (rl + rh * 18446744073709551616) = N3 l2 m2 h2 + P130 * q ∧ h2 ≤ 5 := by
  obtain ⟨p0, q0, x1, x2, x3, A, Z, B, O, C, O2, D, W, p, q, o1, k1, b1, kb, t1, k2, d1, d2, o2, k3, t2, k4, d3, l1, c1, m1, c2, u, c3, c4, e1, e2, e3, e4, hp, hq, e5, e6, e7, hd1, hd2, e8, e9, hd3, f1, f2, hu, f3, f4, hh2⟩ := t.ex
  have ht2 := e9.eq.2
  rw [and_hi _ ht2] at f1
  rw [and3] at hh2
  replace hu := hu.h
  rw [or_u _ _ (Nat.div_lt_of_lt_mul ht2)] at hu
  have b1' : l * rl ≤ 18446744073709551615 * 1152921504606846975 := Nat.mul_le_mul (Nat.le_of_lt_succ hl) (Nat.le_of_lt_succ hrl)
  have b2' : m * rl ≤ 18446744073709551615 * 1152921504606846975 := Nat.mul_le_mul (Nat.le_of_lt_succ hm) (Nat.le_of_lt_succ hrl)
  have b3' : l * rh ≤ 18446744073709551615 * 1152921504606846975 := Nat.mul_le_mul (Nat.le_of_lt_succ hl) (Nat.le_of_lt_succ hrh)
  have b4' : m * rh ≤ 18446744073709551615 * 1152921504606846975 := Nat.mul_le_mul (Nat.le_of_lt_succ hm) (Nat.le_of_lt_succ hrh)
  have b5' : h * rl ≤ 7 * 1152921504606846975 := Nat.mul_le_mul hh (Nat.le_of_lt_succ hrl)
  have b6' : h * rh ≤ 7 * 1152921504606846975 := Nat.mul_le_mul hh (Nat.le_of_lt_succ hrh)
  have E : N3 l m h * (rl + rh * 18446744073709551616) = l * rl + (m * rl + l * rh) * 18446744073709551616 + (h * rl + m * rh) * 340282366920938463463374607431768211456 + h * rh * 6277101735386680763835789423207666416102355444464034512896 := prod6 l m h rl rh 18446744073709551616
  rw [E]
  replace e1 := e1.eq
  replace e2 := e2.eq
  replace e3 := e3.eq
  replace e4 := e4.eq
  replace hp := hp.eq
  replace hq := hq.eq
  replace e5 := e5.eq
  replace e6 := e6.eq
  replace e7 := e7.eq
  replace e8 := e8.eq
  replace e9 := e9.eq
  replace hd1 := hd1.eq
  replace hd2 := hd2.eq
  replace hd3 := hd3.eq
  replace f1 := f1.eq
  replace f2 := f2.eq
  replace f3 := f3.eq
  replace f4 := f4.eq
  have hZ := e1.2
  have hA := mecB e1 b1'
  have hB := mecB e2 b2'
  have hC := mecB e3 b3'
  have hD := mecB e4 b4'
  obtain rfl : p0 = 0 := mec0 hp (Nat.lt_of_le_of_lt b5' (by decide))
  obtain rfl : q0 = 0 := mec0 hq (Nat.lt_of_le_of_lt b6' (by decide))
  have z3 : k1 ≤ 1 := car1 e5 e2.2 e3.2 (by decide)
  obtain rfl : kb = 0 := car0 e6 (by clear e1 e2 e3 e4 hp hq e5 e6 e7 e8 e9 hd1 hd2 hd3 f1 f2 f3 f4 hh2 E b1' b2' b3' b4' b5' b6'; omega)
  have z5 : k2 ≤ 1 := car1 e7 e4.2 hp.2 (by decide)
  have hq8 : q < 8070450532247928832 := by
    have h1 := hq.1
    rw [h1] at b6'
    clear e1 e2 e3 e4 hp hq e5 e6 e7 e8 e9 hd1 hd2 hd3 f1 f2 f3 f4 hh2 E b1' b2' b3' b4' b5' h1; omega
  obtain rfl : x1 = 0 := car0 hd1 (by clear e1 e2 e3 e4 hp hq e5 e6 e7 e8 e9 hd1 hd2 hd3 f1 f2 f3 f4 hh2 E b1' b2' b3' b4' b5' b6'; omega)
  have hd1v : d1 = D + q := by have h1 := hd1.1; clear e1 e2 e3 e4 hp hq e5 e6 e7 e8 e9 hd1 hd2 hd3 f1 f2 f3 f4 hh2 E b1' b2' b3' b4' b5' b6'; omega
  obtain rfl : x2 = 0 := car0 hd2 (by clear e1 e2 e3 e4 hp hq e5 e6 e7 e8 e9 hd1 hd2 hd3 f1 f2 f3 f4 hh2 E b1' b2' b3' b4' b5' b6'; omega)
  have hd2v : d2 = d1 + k2 := by have h1 := hd2.1; clear e1 e2 e3 e4 hp hq e5 e6 e7 e8 e9 hd1 hd2 hd3 f1 f2 f3 f4 hh2 E b1' b2' b3' b4' b5' b6'; omega
  have z8 : k3 ≤ 1 := car1 e8 e5.2 (Nat.lt_trans hA (by decide)) (by decide)
  have z9 : k4 ≤ 1 := car1 e9 e7.2 e6.2 z8
  obtain rfl : x3 = 0 := car0 hd3 (by clear e1 e2 e3 e4 hp hq e5 e6 e7 e8 e9 hd1 hd2 hd3 f1 f2 f3 f4 hh2 E b1' b2' b3' b4' b5' b6'; omega)
  have hd3v : d3 = d2 + k4 := by have h1 := hd3.1; clear e1 e2 e3 e4 hp hq e5 e6 e7 e8 e9 hd1 hd2 hd3 f1 f2 f3 f4 hh2 E b1' b2' b3' b4' b5' b6'; omega
  have hd3b : d3 < 10376293541461622784 := by clear e1 e2 e3 e4 hp hq e5 e6 e7 e8 e9 hd1 hd2 hd3 f1 f2 f3 f4 hh2 E b1' b2' b3' b4' b5' b6'; omega
  rw [tv1 e1.1 e2.1 e3.1 e4.1 hp.1 hq.1 e5.1 e6.1 e7.1 hd1.1 hd2.1 e8.1 e9.1 hd3.1]
  clear e1 e2 e3 e4 hp hq e5 e6 e7 E b1' b2' b3' b4' b5' b6' hd1 hd2 hd3 hA hB hC hD hd1v hd2v hd3v hq8
  have z11 : c1 ≤ 1 := car1 f1 (by clear f1 f2 f3 f4 hh2 hu; omega) (by clear f1 f2 f3 f4 hh2 hu e8 e9; omega) (by decide)
  have z12 : c2 ≤ 1 := car1 f2 e8.2 (Nat.lt_trans hd3b (by decide)) z11
  have hub : u < 18446744073709551616 := by clear f1 f2 f3 f4 hh2 e8 e9; omega
  have z14 : c3 ≤ 1 := car1 f3 f1.2 hub (by decide)
  have z15 : c4 ≤ 1 := car1 f4 f2.2 (by clear f1 f2 f3 f4 hh2 hu e8 e9; omega) z14
  have hh3 : h2 = t2 % 4 + c2 + c4 := by clear f1 f2 f3 f4 e8 e9 hu; omega
  have t4 : t2 = 4 * (t2 / 4) + t2 % 4 := (Nat.div_add_mod t2 4).symm
  have d4 : d3 = 4 * (d3 / 4) + d3 % 4 := (Nat.div_add_mod d3 4).symm
  refine ⟨t2 / 4 + (4 * (d3 / 4) + d3 % 4) * 4611686018427387904, ?_, by clear f1 f2 f3 f4 e8 e9 hu t4 d4 hh2; omega⟩
  have f2' := f2.1
  rw [d4] at f2'
  have hh4 : (4 * (d3 / 4) + d3 % 4) / 4 = d3 / 4 := by rw [← d4]
  have := tv2 (ta := t2 / 4) (tb := t2 % 4) (da := d3 / 4) (db := d3 % 4) f1.1 f2' hu f3.1 f4.1 hh3
  rw [← t4, ← d4] at this
  rw [← d4]
  exact this
theorem KR.val {bh l m h rl rh W0 W1 l2 m2 h2 : Nat} (t : KR bh l m h rl rh W0 W1 l2 m2 h2) (hbh : bh ≤ 1) (hl : l < 18446744073709551616) (hm : m < 18446744073709551616) (hh : h ≤ 5) (hW0 : W0 < 18446744073709551616) (hW1 : W1 < 18446744073709551616) (hrl : rl < 1152921504606846976) (hrh : rh < 1152921504606846976) :
    ∃ q, (N3 l m h + N3 W0 W1 bh) * (rl + rh * 18446744073709551616) = N3 l2 m2 h2 + P130 * q ∧ h2 ≤ 5 := by
  obtain ⟨l1, k1, m1, k2, s1, x1, h1, x2, e1, e2, e3, e4, t⟩ := t.ex
  have e1 := e1.eq
  have e2 := e2.eq
  have e3 := e3.eq
  have e4 := e4.eq
  obtain ⟨q, h1', h2'⟩ := t.val e1.2 e2.2 (by omega) hrl hrh
  refine ⟨q, ?_, h2'⟩
  rw [← h1']
  congr 1
  simp only [N3]
  have : k1 ≤ 1 := by omega
  have : k2 ≤ 1 := by omega
  have : x1 = 0 := by omega
  have : x2 = 0 := by omega
  omega
theorem end_val (l m h : Nat) (hl : l < 18446744073709551616) (hm : m < 18446744073709551616) (hh : h ≤ 5) (hN : N3 l m h < 2 * P130) : elo l m h + pemi l m h * 18446744073709551616 = (N3 l m h % P130) % 340282366920938463463374607431768211456 := by
  have key : N3 l m h % P130 = if N3 l m h < P130 then N3 l m h else N3 l m h - P130 := by
    split
    · rename_i hc; exact Nat.mod_eq_of_lt hc
    · rename_i hc
      rw [Nat.mod_eq_sub_mod (Nat.le_of_not_lt hc), Nat.mod_eq_of_lt (by omega)]
  rw [key]
  have e0 : eb0 l = if l < 18446744073709551611 then 1 else 0 := rfl
  have e1 : peb1 l m = if m < 18446744073709551615 + eb0 l then 1 else 0 := rfl
  have e2 : eb2 l m h = if N3 l m h < P130 then 1 else 0 := by
    have this : eb2 l m h = if h < 3 + peb1 l m then 1 else 0 := rfl
    clear key hN
    by_cases h0 : l < 18446744073709551611
    · rw [if_pos h0] at e0
      rw [e0] at e1
      by_cases h1 : m < 18446744073709551615 + 1
      · rw [if_pos h1] at e1
        rw [this, e1]
        by_cases h2 : h < 3 + 1
        · rw [if_pos h2, if_pos (by simp only [N3, P130]; omega)]
        · rw [if_neg h2, if_neg (by simp only [N3, P130]; omega)]
      · omega
    · rw [if_neg h0] at e0
      rw [e0] at e1
      by_cases h1 : m < 18446744073709551615 + 0
      · rw [if_pos h1] at e1
        rw [this, e1]
        by_cases h2 : h < 3 + 1
        · rw [if_pos h2, if_pos (by simp only [N3, P130]; omega)]
        · rw [if_neg h2, if_neg (by simp only [N3, P130]; omega)]
      · rw [if_neg h1] at e1
        rw [this, e1]
        by_cases h2 : h < 3 + 0
        · rw [if_pos h2, if_pos (by simp only [N3, P130]; omega)]
        · rw [if_neg h2, if_neg (by simp only [N3, P130]; omega)]
  unfold elo pemi
  rw [e2]
  by_cases hc : N3 l m h < P130
  · simp only [if_pos hc, if_true]
    simp only [N3]
    omega
  · simp only [if_neg hc]
    rw [if_neg (by decide), if_neg (by decide), e0]
    clear key e0 e1 e2
    simp only [N3, P130] at hc hN ⊢
    by_cases h0 : l < 18446744073709551611
    · rw [if_pos h0]; omega
    · rw [if_neg h0]; omega
theorem and_split (k a c x m : Nat) (ha : a < 2 ^ k) (hc : c < 2 ^ k) : (a + 2 ^ k * x) &&& (c + 2 ^ k * m) = (a &&& c) + 2 ^ k * (x &&& m) := by
  have hac : a &&& c < 2 ^ k := Nat.lt_of_le_of_lt Nat.and_le_left ha
  apply Nat.eq_of_testBit_eq
  intro i
  rw [Nat.testBit_and, Nat.add_comm a, Nat.add_comm c, Nat.add_comm (a &&& c), Nat.testBit_two_pow_mul_add _ ha, Nat.testBit_two_pow_mul_add _ hc, Nat.testBit_two_pow_mul_add _ hac]
  split <;> simp [Nat.testBit_and]
theorem and255 (a : Nat) (h : a < 256) : a &&& 255 = a := by
  have := Nat.and_two_pow_sub_one_eq_mod a 8
  rw [show (2 ^ 8 - 1 : Nat) = 255 by decide] at this
  rw [this]; exact Nat.mod_eq_of_lt (by omega)
theorem and15 (a : Nat) : a &&& 15 = a % 16 := Nat.and_two_pow_sub_one_eq_mod a 4
theorem and252 (a : Nat) (h : a < 256) : a &&& 252 = a / 4 * 4 := by
  have h1 : a = a % 4 + 2 ^ 2 * (a / 4) := by omega
  have h2 : (252 : Nat) = 0 + 2 ^ 2 * 63 := by decide
  have h3 : a / 4 &&& 63 = a / 4 := by
    have := Nat.and_two_pow_sub_one_eq_mod (a / 4) 6
    rw [show (2 ^ 6 - 1 : Nat) = 63 by decide] at this
    rw [this]; exact Nat.mod_eq_of_lt (by omega)
  rw [h2]
  conv => lhs; rw [h1]
  rw [and_split 2 _ _ _ _ (by omega) (by omega), h3]
  simp; omega
def L8 (b : Nat → Nat) : Nat := b 0 + 256 * (b 1 + 256 * (b 2 + 256 * (b 3 + 256 * (b 4 + 256 * (b 5 + 256 * (b 6 + 256 * b 7))))))
theorem clampL (b : Nat → Nat) (h : ∀ i, b i < 256) : L8 b &&& 1152921487695413247 = b 0 + 256 * (b 1 + 256 * (b 2 + 256 * (b 3 % 16 + 256 * (b 4 / 4 * 4 + 256 * (b 5 + 256 * (b 6 + 256 * (b 7 % 16))))))) := by
  have e : (1152921487695413247 : Nat) = 255 + 2 ^ 8 * (255 + 2 ^ 8 * (255 + 2 ^ 8 * (15 + 2 ^ 8 * (252 + 2 ^ 8 * (255 + 2 ^ 8 * (255 + 2 ^ 8 * 15)))))) := by decide
  have g := fun i => h i
  have e8 : (256 : Nat) = 2 ^ 8 := by decide
  unfold L8
  simp only [e8] at g ⊢
  rw [e]
  rw [and_split 8 _ _ _ _ (g 0) (by decide), and_split 8 _ _ _ _ (g 1) (by decide), and_split 8 _ _ _ _ (g 2) (by decide), and_split 8 _ _ _ _ (g 3) (by decide), and_split 8 _ _ _ _ (g 4) (by decide), and_split 8 _ _ _ _ (g 5) (by decide), and_split 8 _ _ _ _ (g 6) (by decide)]
  rw [and255 _ (h 0), and255 _ (h 1), and255 _ (h 2), and15, and252 _ (h 4), and255 _ (h 5), and255 _ (h 6), and15]
theorem clampH (b : Nat → Nat) (h : ∀ i, b i < 256) : L8 b &&& 1152921487695413244 = b 0 / 4 * 4 + 256 * (b 1 + 256 * (b 2 + 256 * (b 3 % 16 + 256 * (b 4 / 4 * 4 + 256 * (b 5 + 256 * (b 6 + 256 * (b 7 % 16))))))) := by
  have e : (1152921487695413244 : Nat) = 252 + 2 ^ 8 * (255 + 2 ^ 8 * (255 + 2 ^ 8 * (15 + 2 ^ 8 * (252 + 2 ^ 8 * (255 + 2 ^ 8 * (255 + 2 ^ 8 * 15)))))) := by decide
  have g := fun i => h i
  have e8 : (256 : Nat) = 2 ^ 8 := by decide
  unfold L8
  simp only [e8] at g ⊢
  rw [e]
  rw [and_split 8 _ _ _ _ (g 0) (by decide), and_split 8 _ _ _ _ (g 1) (by decide), and_split 8 _ _ _ _ (g 2) (by decide), and_split 8 _ _ _ _ (g 3) (by decide), and_split 8 _ _ _ _ (g 4) (by decide), and_split 8 _ _ _ _ (g 5) (by decide), and_split 8 _ _ _ _ (g 6) (by decide)]
  rw [and252 _ (h 0), and255 _ (h 1), and255 _ (h 2), and15, and252 _ (h 4), and255 _ (h 5), and255 _ (h 6), and15]
def vl : List Nat → Nat
  | [] => 0
  | a :: l => a + 256 * vl l
theorem vl_append (l m : List Nat) : vl (l ++ m) = vl l + 256 ^ l.length * vl m := by
  induction l with
  | nil => simp [vl]
  | cons a l ih =>
    simp only [List.cons_append, vl, ih, List.length_cons, Nat.pow_succ, Nat.mul_add]
    rw [Nat.add_assoc, ← Nat.mul_assoc 256, Nat.mul_comm 256 (256 ^ l.length)]
theorem vl_zeros (n : Nat) : vl (List.replicate n 0) = 0 := by
  induction n with
  | zero => rfl
  | succ n ih => simp [List.replicate_succ, vl, ih]
def blkV (xs : List Nat) (j : Nat) : Nat := vl ((xs.drop (16 * j)).take 16) + 256 ^ ((xs.drop (16 * j)).take 16).length
def accV (R : Nat) (xs : List Nat) : Nat → Nat
  | 0 => 0
  | j + 1 => (accV R xs j + blkV xs j) * R % P130
structure StV (s : Nat × Nat × Nat) (v : Nat) : Prop where
  l : s.1 < 18446744073709551616
  m : s.2.1 < 18446744073709551616
  h : s.2.2 ≤ 5
  v : N3 s.1 s.2.1 s.2.2 % P130 = v
theorem StV.zero : StV (0, 0, 0) 0 := ⟨by decide, by decide, by decide, by decide⟩
theorem StV.next {s s' : Nat × Nat × Nat} {v bh rl rh W0 W1 b R : Nat} (hs : StV s v) (hbh : bh ≤ 1) (t : KR bh s.1 s.2.1 s.2.2 rl rh W0 W1 s'.1 s'.2.1 s'.2.2) (hlt : s'.1 < 18446744073709551616 ∧ s'.2.1 < 18446744073709551616 ∧ s'.2.2 < 18446744073709551616) (hW0 : W0 < 18446744073709551616) (hW1 : W1 < 18446744073709551616) (hb : N3 W0 W1 bh = b) (hrl : rl < 1152921504606846976) (hrh : rh < 1152921504606846976) (hR : rl + rh * 18446744073709551616 = R) : StV s' ((v + b) * R % P130) := by
  obtain ⟨q, h1, h2⟩ := t.val hbh hs.l hs.m hs.h hW0 hW1 hrl hrh
  refine ⟨hlt.1, hlt.2.1, h2, ?_⟩
  subst hb; subst hR
  have h3 : N3 s'.1 s'.2.1 s'.2.2 % P130 = (N3 s.1 s.2.1 s.2.2 + N3 W0 W1 bh) * (rl + rh * 18446744073709551616) % P130 := by rw [h1]; exact (Nat.add_mul_mod_self_left _ _ _).symm
  rw [h3, ← hs.v]
  generalize N3 s.1 s.2.1 s.2.2 = N
  generalize N3 W0 W1 bh = b
  generalize rl + rh * 18446744073709551616 = R
  have e1 : (N + b) % P130 = (N % P130 + b) % P130 := by rw [Nat.mod_add_mod]
  rw [Nat.mul_mod, e1, ← Nat.mul_mod]
theorem StV.done {s : Nat × Nat × Nat} {v : Nat} (hs : StV s v) : elo s.1 s.2.1 s.2.2 + pemi s.1 s.2.1 s.2.2 * 18446744073709551616 = v % 340282366920938463463374607431768211456 := by
  rw [← hs.v]
  have := hs.l; have := hs.m; have := hs.h
  exact end_val _ _ _ hs.l hs.m hs.h (by simp only [N3, P130]; omega)
end Go.Proofs.Yteopejjlhmghbaa
namespace Go.Proofs.Yteopejjlhmghbaa
open Go Go.RowKit
set_option linter.unusedVariables false
set_option linter.unusedSimpArgs false
set_option linter.unnecessarySimpa false
def rcl (kb : Nat → Int) : List Nat := [(kb 0).toNat, (kb 1).toNat, (kb 2).toNat, (kb 3).toNat % 16, (kb 4).toNat / 4 * 4, (kb 5).toNat, (kb 6).toNat, (kb 7).toNat % 16, (kb 8).toNat / 4 * 4, (kb 9).toNat, (kb 10).toNat, (kb 11).toNat % 16, (kb 12).toNat / 4 * 4, (kb 13).toNat, (kb 14).toNat, (kb 15).toNat % 16]
def codeB (V : Nat) (i : Nat) : List Value := (List.range 16).map fun q => Value.int .u8 (if q < i then ((V / 256 ^ q % 256 : Nat) : Int) else 0)
def nbl (len : Nat) : Nat := (len + 15) / 16
end Go.Proofs.Yteopejjlhmghbaa
namespace Go.Proofs.Yteopejjlhmghbaa
open Go Go.RowKit
set_option linter.unusedVariables false
set_option linter.unusedSimpArgs false
def shF (f : Nat → Int) (bl i : Nat) : Int := if i < bl then f i else if i = bl then 1 else 0
theorem shF_bd (f : Nat → Int) (hf : ∀ i, 0 ≤ f i ∧ f i ≤ 255) (bl i : Nat) : 0 ≤ shF f bl i ∧ shF f bl i ≤ 255 := by
  unfold shF
  split
  · exact hf i
  · split <;> omega
def shA (f : Nat → Int) (bl : Nat) : Array Value := #[.int .u8 (shF f bl 0), .int .u8 (shF f bl 1), .int .u8 (shF f bl 2), .int .u8 (shF f bl 3), .int .u8 (shF f bl 4), .int .u8 (shF f bl 5), .int .u8 (shF f bl 6), .int .u8 (shF f bl 7), .int .u8 (shF f bl 8), .int .u8 (shF f bl 9), .int .u8 (shF f bl 10), .int .u8 (shF f bl 11), .int .u8 (shF f bl 12), .int .u8 (shF f bl 13), .int .u8 (shF f bl 14), .int .u8 (shF f bl 15)]
theorem sh_eq (f : Nat → Int) (bl : Nat) (hb : bl < 16) : (setA #[.int .u8 0, .int .u8 0, .int .u8 0, .int .u8 0, .int .u8 0, .int .u8 0, .int .u8 0, .int .u8 0, .int .u8 0, .int .u8 0, .int .u8 0, .int .u8 0, .int .u8 0, .int .u8 0, .int .u8 0, .int .u8 0] 0 ((List.range bl).map fun i => Value.int .u8 (f i))).setIfInBounds bl (.int .u8 1) = shA f bl := by
  have hA : (shA f bl).toList = (List.range 16).map fun i => Value.int .u8 (shF f bl i) := rfl
  have hZ : (#[.int .u8 0, .int .u8 0, .int .u8 0, .int .u8 0, .int .u8 0, .int .u8 0, .int .u8 0, .int .u8 0, .int .u8 0, .int .u8 0, .int .u8 0, .int .u8 0, .int .u8 0, .int .u8 0, .int .u8 0, .int .u8 0] : Array Value).toList = List.replicate 16 (.int .u8 0) := rfl
  apply Array.ext'
  rw [Array.toList_setIfInBounds, setA_toList _ _ _ (by simp; omega), hA, hZ]
  apply List.ext_getElem
  · simp; omega
  · intro i h1 h2
    have hi : i < 16 := by simpa using h2
    simp only [List.getElem_set, List.getElem_map, List.getElem_range, List.take_zero, List.nil_append]
    by_cases e : bl = i
    · subst e
      rw [if_pos rfl]
      simp [shF]
    · have e' : ¬ i = bl := fun h => e h.symm
      rw [if_neg e]
      by_cases h3 : i < bl
      · rw [List.getElem_append_left (by simpa using h3)]
        simp [shF, h3]
      · rw [List.getElem_append_right (by simp; omega), show shF f bl i = 0 by simp [shF, h3, e']]
        simp only [List.getElem_drop, List.getElem_replicate]
theorem allOne_map (f : Nat → Int) (bl : Nat) : allOne ((List.range bl).map fun i => Value.int .u8 (f i)) = true := by
  generalize List.range bl = l
  induction l with
  | nil => rfl
  | cons i l ih => simpa [allOne, Value.oneCell'] using ih
set_option maxRecDepth 100000 in
set_option maxHeartbeats 1000000 in
theorem take_short (g l m h rl rh W0 W1 l2 m2 h2 gb o bl cap : Nat) (hbl : bl < 16) (hcap : bl ≤ cap) (f : Nat → Int) (hf : ∀ i, 0 ≤ f i ∧ f i ≤ 255) (hW0 : le64 (shF f bl 0) (shF f bl 1) (shF f bl 2) (shF f bl 3) (shF f bl 4) (shF f bl 5) (shF f bl 6) (shF f bl 7) = (W0 : Int)) (hW1 : le64 (shF f bl 8) (shF f bl 9) (shF f bl 10) (shF f bl 11) (shF f bl 12) (shF f bl 13) (shF f bl 14) (shF f bl 15) = (W1 : Int)) (hw0 : W0 < 18446744073709551616) (hw1 : W1 < 18446744073709551616)
    (t : KR 0 l m h rl rh W0 W1 l2 m2 h2) (hl : l < 18446744073709551616) (hm0 : m < 18446744073709551616) (hh : h < 18446744073709551616) (hrl : rl < 18446744073709551616) (hrh : rh < 18446744073709551616) (hgb : gb ≠ g) (w : World) (hO : Old w gb o ((List.range bl).map fun i => Value.int .u8 (f i))) (hL : Has [.blk g (.cells #[.int .u64 (l : Int), .int .u64 (m : Int), .int .u64 (h : Int), .int .u64 (rl : Int), .int .u64 (rh : Int)] 108 (0, 0))] w) :
    CA Try.prog 68 [.pointer (some ⟨g, 0, none⟩), .slice (some ⟨gb, o, none⟩) bl cap] w (RU (.tuple #[]) g (.cells #[.int .u64 (l2 : Int), .int .u64 (m2 : Int), .int .u64 (h2 : Int), .int .u64 (rl : Int), .int .u64 (rh : Int)] 108 (0, 0)) w) := by
  obtain ⟨l1, k1, m1, k2, s1, x1, h1, x2, e1, e2, e3, e4, tr⟩ := t.ex
  have hk1 := e1.le hl hw0 (by omega)
  have hl1 := e1.lt
  have hm1 := e2.lt
  have hh1 := e4.lt
  have hs := shF_bd f hf bl
  refine enter (L := _) (X := [g]) Try.func68 rfl Try.ntmps68 rfl rfl hL ?_
  repeat (first | refine c_seq ?_ | (refine c_region (id := 0) ?_; refine se ?_; refine ea ?_; refine l_nil ?_) | (refine c_region (id := 1) ?_; refine sq qa ?_; refine l_nil ?_) | (refine c_region (id := 2) ?_; refine sq qm ?_; refine sq qls ?_; refine sq (by first | exact dlsst | exact dlssf) ?_; refine sq qa ?_; refine l_nil ?_) | (refine c_region (id := 3) ?_; refine sq qsa ?_; refine sq qm ?_; refine se ?_; refine e_copy (news := ((List.range bl).map fun i => Value.int .u8 (f i))) (k := bl) rfl rfl rfl (hO.rdN (by simpa using hgb)) (by simp; omega) (allOne_map f bl) (by (repeat (first | exact Pl.here | apply Pl.there))) (by simp; omega) (by first | (left; simp; done) | (right; omega)) (by simp) ?_; refine l_nil ?_) | (refine c_region (id := 4) ?_; refine sq qm ?_; refine sq qls ?_; refine sq (by exact q_indexAddr_arr (o' := bl) rfl rfl (by omega) (by omega) (by omega)) ?_; refine se ?_; refine e_store1 rfl rfl rfl (by (repeat (first | exact Pl.here | apply Pl.there))) (by rw [setA_size]; show bl < 16; omega) (by first | (left; simp; done) | (right; omega)) ?_; refine l_nil ?_) | (refine c_region (id := 5) ?_; refine sq qa ?_; refine l_nil ?_) | (refine c_region (id := 6) ?_; refine sq qsa ?_; refine sq qa ?_; refine l_nil ?_) | refine n_then ?_ | refine c_block ?_ | refine c_skip ?_ | refine n_block ?_ | refine c_exit ?_ | refine n_then_exit ?_ | refine n_block_eq ?_ | refine n_block_ne rfl ?_ | refine c_ret ?_ | refine n_then_ret ?_ | refine n_block_ret ?_ | refine c_cond_t rfl ?_ | refine c_cond_f rfl ?_ | refine r_succ ?_ )
  refine chg (L' := [.blk w.heap.size (.cells (shA f bl) 63 (0, 0)), .blk g (.cells #[.int .u64 (l : Int), .int .u64 (m : Int), .int .u64 (h : Int), .int .u64 (rl : Int), .int .u64 (rh : Int)] 108 (0, 0))]) (by rw [sh_eq f bl hbl]) ?_
  repeat (first | refine c_seq ?_ | (refine c_region (id := 7) ?_; refine sq qa ?_; refine l_nil ?_) | (refine x_region (id := 8) (some 8) [(0, .n), (1, .n), (2, .n), (3, .n), (4, .q), (5, .n), (6, .n), (7, .e), (8, .b), (9, .n), (10, .n), (11, .n), (12, .n), (13, .n), (14, .e), (15, .n)] _ mixed (by kernel_rfl) (List.Sublist.refl _) ?_; refine xn rfl qm ?_; refine xn rfl qm ?_; refine xn rfl qn ?_; refine xn rfl qf ?_; refine xq rfl ql ?_; refine xn rfl qm ?_; refine xn rfl qs ?_; refine x_e rfl ?_; refine ecp rfl rfl (fun w hC hm hL => by first | exact word_v (by omega) (hs _) (hs _) (hs _) (hs _) (hs _) (hs _) (hs _) (hs _) hW0 w (hL.old (k := 8) (by (repeat (first | exact List.Mem.head _ | apply List.Mem.tail))) (by rfl)) | exact word_v (by omega) (hs _) (hs _) (hs _) (hs _) (hs _) (hs _) (hs _) (hs _) hW1 w (hL.old (k := 8) (by (repeat (first | exact List.Mem.head _ | apply List.Mem.tail))) (by rfl))) ?_; intro m' hm'; refine xk ?_; refine x_b rfl ?_; refine e_q (by first | exact q_extern Try.func78 rfl rfl (by kernel_rfl) (by kernel_rfl) rfl (fun w => run_add64v l W0 0 (by omega) e1 w) | exact q_extern Try.func78 rfl rfl (by kernel_rfl) (by kernel_rfl) rfl (fun w => run_add64v m W1 k1 (by omega) e2 w)) rfl ?_; refine x_k (List.nil_sublist _) ?_; refine xn rfl qm ?_; refine xn rfl qe ?_; refine xn rfl qe ?_; refine xn rfl qn ?_; refine xn rfl qf ?_; refine x_e rfl ?_; (first | refine es1 ?_ | refine es2 ?_ | refine es3 ?_); refine xk ?_; refine xn rfl qa ?_; refine x_nil ?_) | (refine x_region (id := 9) (some 9) [(0, .n), (1, .n), (2, .n), (3, .n), (4, .q), (5, .n), (6, .n), (8, .n), (7, .e), (9, .b), (10, .n), (11, .n), (12, .n), (13, .n), (14, .n), (15, .e), (16, .n)] _ mixed (by kernel_rfl) (List.Sublist.refl _) ?_; refine xn rfl qm ?_; refine xn rfl qm ?_; refine xn rfl qn ?_; refine xn rfl qf ?_; refine xq rfl ql ?_; refine xn rfl qm ?_; refine xn rfl qs ?_; refine xn rfl qm ?_; refine x_e rfl ?_; refine ecp rfl rfl (fun w hC hm hL => by first | exact word_v (by omega) (hs _) (hs _) (hs _) (hs _) (hs _) (hs _) (hs _) (hs _) hW0 w (hL.old (k := 8) (by (repeat (first | exact List.Mem.head _ | apply List.Mem.tail))) (by rfl)) | exact word_v (by omega) (hs _) (hs _) (hs _) (hs _) (hs _) (hs _) (hs _) (hs _) hW1 w (hL.old (k := 8) (by (repeat (first | exact List.Mem.head _ | apply List.Mem.tail))) (by rfl))) ?_; intro m' hm'; refine xk ?_; refine x_b rfl ?_; refine e_q (by first | exact q_extern Try.func78 rfl rfl (by kernel_rfl) (by kernel_rfl) rfl (fun w => run_add64v l W0 0 (by omega) e1 w) | exact q_extern Try.func78 rfl rfl (by kernel_rfl) (by kernel_rfl) rfl (fun w => run_add64v m W1 k1 (by omega) e2 w)) rfl ?_; refine x_k (List.nil_sublist _) ?_; refine xn rfl qm ?_; refine xn rfl qe ?_; refine xn rfl qe ?_; refine xn rfl qn ?_; refine xn rfl qf ?_; refine x_e rfl ?_; (first | refine es1 ?_ | refine es2 ?_ | refine es3 ?_); refine xk ?_; refine xn rfl qa ?_; refine x_nil ?_) | (refine c_region (id := 10) ?_; refine sq qm ?_; refine sq qn ?_; refine sq qf ?_; refine sq ql ?_; refine sq qm ?_; refine sq qm ?_; refine sq (by exact Qt.cast (v' := .int .u64 ((s1 : Nat) : Int)) (congrArg (Value.int .u64) (by rw [e3.s]; omega)) (q_addU rfl rfl)) ?_; refine sq (by exact Qt.cast (v' := .int .u64 ((h1 : Nat) : Int)) (congrArg (Value.int .u64) (by rw [e4.s]; omega)) (q_addU rfl rfl)) ?_; refine sq qn ?_; refine sq qf ?_; refine se ?_; (first | refine es1 ?_ | refine es2 ?_ | refine es3 ?_); refine l_nil ?_) | (refine c_region (id := 11) ?_; refine sq qm ?_; refine se ?_; refine e_call_upd rfl rfl (by kernel_rfl) rfl (fun w hC hm hL => by exact times_r tr g hl1 hm1 hh1 hrl hrh w (hL.sub (by (repeat (first | exact List.nil_sublist _ | exact List.Sublist.slnil | apply List.Sublist.cons_cons | exact List.Sublist.refl _ | apply List.Sublist.cons))))) (by (repeat (first | exact Pl.here | apply Pl.there))) (by first | (left; simp; done) | (right; omega)) ?_; intro m' hm'; refine l_nil ?_) | refine n_then ?_ | refine c_block ?_ | refine c_skip ?_ | refine n_block ?_ | refine c_exit ?_ | refine n_then_exit ?_ | refine n_block_eq ?_ | refine n_block_ne rfl ?_ | refine c_ret ?_ | refine n_then_ret ?_ | refine n_block_ret ?_ | refine c_cond_t rfl ?_ | refine c_cond_f rfl ?_ | refine r_succ ?_ )
  (first | apply r_ret () | apply r_end ()); exact rfl; exact rfl; exact .nil; exact rfl; exact (by (repeat (first | exact List.nil_sublist _ | exact List.Sublist.slnil | apply List.Sublist.cons_cons | exact List.Sublist.refl _ | apply List.Sublist.cons))); exact (new_blk (.inl (by simp)) new_nil); exact trivial
end Go.Proofs.Yteopejjlhmghbaa
namespace Go.Proofs.Yteopejjlhmghbaa
open Go Go.RowKit
set_option linter.unusedVariables false
set_option linter.unusedSimpArgs false
def fq (xs : List Int) (j i : Nat) : Int := xs.getD (16 * j + i) 0
theorem getD_bd' {xs : List Int} (h : ∀ x ∈ xs, 0 ≤ x ∧ x ≤ 255) (j i : Nat) : 0 ≤ fq xs j i ∧ fq xs j i ≤ 255 := getD_bd h _
theorem Old.lt {w : World} {g o : Nat} {v : Value} {vs : List Value} (h : Old w g o (v :: vs)) : g < w.heap.size := World.block_lt_of_cell? w _ (h.cell 0 v rfl)
end Go.Proofs.Yteopejjlhmghbaa
namespace Go.Proofs.Yteopejjlhmghbaa
open Go Go.RowKit
set_option linter.unusedVariables false
set_option linter.unusedSimpArgs false
theorem nat_le {g : Nat → Int} (hg : ∀ i, 0 ≤ g i ∧ g i ≤ 255) (o : Nat) : le64 (g (o + 0)) (g (o + 1)) (g (o + 2)) (g (o + 3)) (g (o + 4)) (g (o + 5)) (g (o + 6)) (g (o + 7)) = ((L8 fun i => (g (o + i)).toNat : Nat) : Int) ∧ (L8 fun i => (g (o + i)).toNat) < 18446744073709551616 := by
  have h := fun i => hg (o + i)
  generalize hk : (fun i => g (o + i)) = k at *
  have hk2 : ∀ i, g (o + i) = k i := fun i => congrFun hk i
  simp only [hk2] at *
  have h0 := h 0
  have h0 := h 0
  have h1 := h 1
  have h2 := h 2
  have h3 := h 3
  have h4 := h 4
  have h5 := h 5
  have h6 := h 6
  have h7 := h 7
  unfold le64
  simp only [L8]
  omega
def wd0 (g : Nat → Int) : Nat := L8 fun i => (g i).toNat
def wd1 (g : Nat → Int) : Nat := L8 fun i => (g (8 + i)).toNat
theorem wd0_eq {g : Nat → Int} (hg : ∀ i, 0 ≤ g i ∧ g i ≤ 255) : le64 (g 0) (g 1) (g 2) (g 3) (g 4) (g 5) (g 6) (g 7) = (wd0 g : Int) ∧ wd0 g < 18446744073709551616 := by
  have h := nat_le hg 0
  simp only [Nat.zero_add] at h
  exact h
theorem wd1_eq {g : Nat → Int} (hg : ∀ i, 0 ≤ g i ∧ g i ≤ 255) : le64 (g 8) (g 9) (g 10) (g 11) (g 12) (g 13) (g 14) (g 15) = (wd1 g : Int) ∧ wd1 g < 18446744073709551616 := nat_le hg 8
theorem wd_vl (g : Nat → Int) (bh : Nat) : N3 (wd0 g) (wd1 g) bh = vl ((List.range 16).map fun i => (g i).toNat) + bh * 340282366920938463463374607431768211456 := by
  have e : ((List.range 16).map fun i => (g i).toNat) = [(g 0).toNat, (g 1).toNat, (g 2).toNat, (g 3).toNat, (g 4).toNat, (g 5).toNat, (g 6).toNat, (g 7).toNat, (g 8).toNat, (g 9).toNat, (g 10).toNat, (g 11).toNat, (g 12).toNat, (g 13).toNat, (g 14).toNat, (g 15).toNat] := rfl
  rw [e]
  simp only [vl, N3, wd0, wd1, L8, Nat.reduceAdd]
  omega
theorem take_fq (xs : List Int) (j r : Nat) (h : 16 * j + r ≤ xs.length) : ((xs.map Int.toNat).drop (16 * j)).take r = (List.range r).map fun i => (fq xs j i).toNat := by
  apply List.ext_getElem
  · simp; omega
  · intro i h1 h2
    have hi : i < r := by simpa using h2
    simp only [List.getElem_take, List.getElem_drop, List.getElem_map, List.getElem_range]
    unfold fq
    rw [List.getD_eq_getElem?_getD, List.getElem?_eq_getElem (by omega), Option.getD_some]
theorem blk_full (xs : List Int) (j : Nat) (h : 16 * j + 16 ≤ xs.length) : N3 (wd0 (fq xs j)) (wd1 (fq xs j)) 1 = blkV (xs.map Int.toNat) j := by
  rw [wd_vl]
  unfold blkV
  rw [take_fq xs j 16 h]
  simp only [List.length_map, List.length_range, Nat.one_mul]
theorem blk_tail (xs : List Int) (j r : Nat) (h : 16 * j + r = xs.length) (hr : r < 16) : N3 (wd0 (shF (fq xs j) r)) (wd1 (shF (fq xs j) r)) 0 = blkV (xs.map Int.toNat) j := by
  rw [wd_vl]
  unfold blkV
  have e0 : ((xs.map Int.toNat).drop (16 * j)).take 16 = ((xs.map Int.toNat).drop (16 * j)).take r := by
    rw [List.take_of_length_le (by simp; omega), List.take_of_length_le (by simp; omega)]
  rw [e0, take_fq xs j r (by omega)]
  have e : ((List.range 16).map fun i => (shF (fq xs j) r i).toNat) = (List.range r).map (fun i => (fq xs j i).toNat) ++ [1] ++ List.replicate (15 - r) 0 := by
    apply List.ext_getElem
    · simp; omega
    · intro i h1 h2
      have hi : i < 16 := by simpa using h1
      simp only [List.getElem_map, List.getElem_range]
      unfold shF
      by_cases h3 : i < r
      · rw [if_pos h3, List.getElem_append_left (by simp; omega), List.getElem_append_left (by simpa using h3)]; simp
      · rw [if_neg h3]
        by_cases h4 : i = r
        · subst h4; rw [if_pos rfl, List.getElem_append_left (by simp), List.getElem_append_right (by simp)]; simp
        · rw [if_neg h4, List.getElem_append_right (by simp; omega)]; simp
  rw [e, vl_append, vl_append, vl_zeros]
  simp [vl]
theorem r_key (kb : Nat → Int) (hk : ∀ i, 0 ≤ kb i ∧ kb i ≤ 255) : ∃ rl rh : Nat, rL kb = (rl : Int) ∧ rH kb = (rh : Int) ∧ rl < 1152921504606846976 ∧ rh < 1152921504606846976 ∧ rl + rh * 18446744073709551616 = vl (rcl kb) := by
  have a0 := wd0_eq hk
  have a1 := wd1_eq hk
  have h := fun i => (show (kb i).toNat < 256 by have := hk i; omega)
  refine ⟨wd0 kb &&& 1152921487695413247, wd1 kb &&& 1152921487695413244, ?_, ?_, ?_⟩
  · unfold rL
    rw [a0.1, show (1152921487695413247 : Int) = ((1152921487695413247 : Nat) : Int) from rfl, u64_and_nat _ _ a0.2 (by omega)]
  · unfold rH
    rw [a1.1, show (1152921487695413244 : Int) = ((1152921487695413244 : Nat) : Int) from rfl, u64_and_nat _ _ a1.2 (by omega)]
  · have c0 := clampL (fun i => (kb i).toNat) (fun i => h i)
    have c1 := clampH (fun i => (kb (8 + i)).toNat) (fun i => h _)
    rw [show wd0 kb = L8 fun i => (kb i).toNat from rfl, show wd1 kb = L8 fun i => (kb (8 + i)).toNat from rfl, c0, c1]
    simp only [Nat.reduceAdd, rcl, vl]
    have h0 := h 0
    have h1 := h 1
    have h2 := h 2
    have h3 := h 3
    have h4 := h 4
    have h5 := h 5
    have h6 := h 6
    have h7 := h 7
    have h8 := h 8
    have h9 := h 9
    have h10 := h 10
    have h11 := h 11
    have h12 := h 12
    have h13 := h 13
    have h14 := h 14
    have h15 := h 15
    generalize (kb 0).toNat = k0 at *
    generalize (kb 1).toNat = k1 at *
    generalize (kb 2).toNat = k2 at *
    generalize (kb 3).toNat = k3 at *
    generalize (kb 4).toNat = k4 at *
    generalize (kb 5).toNat = k5 at *
    generalize (kb 6).toNat = k6 at *
    generalize (kb 7).toNat = k7 at *
    generalize (kb 8).toNat = k8 at *
    generalize (kb 9).toNat = k9 at *
    generalize (kb 10).toNat = k10 at *
    generalize (kb 11).toNat = k11 at *
    generalize (kb 12).toNat = k12 at *
    generalize (kb 13).toNat = k13 at *
    generalize (kb 14).toNat = k14 at *
    generalize (kb 15).toNat = k15 at *
    clear c0 c1 h a0 a1 hk
    omega
theorem byL (V i : Nat) (h : i < 8) : byt64 ((V % 18446744073709551616 : Nat) : Int) i = ((V / 256 ^ i % 256 : Nat) : Int) := by
  unfold byt64
  have e : (2 : Int) ^ (8 * i) = ((256 ^ i : Nat) : Int) := by rw [Int.natCast_pow, Int.pow_mul]; rfl
  rw [e, ← Int.natCast_ediv, show (256 : Int) = ((256 : Nat) : Int) from rfl, ← Int.natCast_emod]
  congr 1
  have e2 : 18446744073709551616 = 256 ^ i * 256 ^ (8 - i) := by
    rw [← Nat.pow_add, show i + (8 - i) = 8 by omega]
  rw [e2, Nat.mod_mul_right_div_self, Nat.mod_mod_of_dvd]
  exact ⟨256 ^ (7 - i), by rw [Nat.mul_comm, ← Nat.pow_succ]; congr 1; omega⟩
theorem byH (V i : Nat) : V / 18446744073709551616 / 256 ^ i = V / 256 ^ (8 + i) := by
  rw [Nat.div_div_eq_div_mul, Nat.pow_add]
theorem key_hi (kb : Nat → Int) : vl (((List.range 16).map fun i => kb (16 + i)).map Int.toNat) = L8 (fun i => (kb (16 + i)).toNat) + L8 (fun i => (kb (24 + i)).toNat) * 18446744073709551616 := by
  rw [List.map_map, show (Int.toNat ∘ fun i => kb (16 + i)) = fun i => ((fun i => kb (16 + i)) i).toNat from rfl]
  have h := wd_vl (fun i => kb (16 + i)) 0
  rw [Nat.zero_mul, Nat.add_zero] at h
  rw [← h]
  have h0 : wd0 (fun i => kb (16 + i)) = L8 (fun i => (kb (16 + i)).toNat) := rfl
  have h1 : wd1 (fun i => kb (16 + i)) = L8 (fun i => (kb (24 + i)).toNat) := by
    unfold wd1
    congr 1
    funext i
    show (kb (16 + (8 + i))).toNat = _
    rw [show 16 + (8 + i) = 24 + i by omega]
  rw [h0, h1]
  unfold N3
  rw [Nat.zero_mul, Nat.add_zero]
theorem cLo_eq {S0 lo mi v S1 : Nat} {c : Int} (hc : c = (S0 : Int)) (hd : lo + mi * 18446744073709551616 = v % 340282366920938463463374607431768211456) (hl : lo < 18446744073709551616) : ((lo : Int) + c + 0) % 18446744073709551616 = (((v + (S0 + S1 * 18446744073709551616)) % 18446744073709551616 : Nat) : Int) := by
  subst hc
  omega
theorem cHi_eq {S0 lo mi v S1 : Nat} {c e : Int} (hc : c = (S0 : Int)) (he : e = (S1 : Int)) (hd : lo + mi * 18446744073709551616 = v % 340282366920938463463374607431768211456) (hl : lo < 18446744073709551616) (hm : mi < 18446744073709551616) : ((mi : Int) + e + ((lo : Int) + c + 0) / 18446744073709551616) % 18446744073709551616 = (((v + (S0 + S1 * 18446744073709551616)) / 18446744073709551616 % 18446744073709551616 : Nat) : Int) := by
  subst hc
  subst he
  omega
theorem codeA_V (V : Nat) : codeA ((V % 18446744073709551616 : Nat) : Int) ((V / 18446744073709551616 % 18446744073709551616 : Nat) : Int) = #[.int .u8 ((V / 256 ^ 0 % 256 : Nat) : Int), .int .u8 ((V / 256 ^ 1 % 256 : Nat) : Int), .int .u8 ((V / 256 ^ 2 % 256 : Nat) : Int), .int .u8 ((V / 256 ^ 3 % 256 : Nat) : Int), .int .u8 ((V / 256 ^ 4 % 256 : Nat) : Int), .int .u8 ((V / 256 ^ 5 % 256 : Nat) : Int), .int .u8 ((V / 256 ^ 6 % 256 : Nat) : Int), .int .u8 ((V / 256 ^ 7 % 256 : Nat) : Int), .int .u8 ((V / 256 ^ 8 % 256 : Nat) : Int), .int .u8 ((V / 256 ^ 9 % 256 : Nat) : Int), .int .u8 ((V / 256 ^ 10 % 256 : Nat) : Int), .int .u8 ((V / 256 ^ 11 % 256 : Nat) : Int), .int .u8 ((V / 256 ^ 12 % 256 : Nat) : Int), .int .u8 ((V / 256 ^ 13 % 256 : Nat) : Int), .int .u8 ((V / 256 ^ 14 % 256 : Nat) : Int), .int .u8 ((V / 256 ^ 15 % 256 : Nat) : Int)] := by
  have q0 := byL V 0 (by omega)
  have q1 := byL V 1 (by omega)
  have q2 := byL V 2 (by omega)
  have q3 := byL V 3 (by omega)
  have q4 := byL V 4 (by omega)
  have q5 := byL V 5 (by omega)
  have q6 := byL V 6 (by omega)
  have q7 := byL V 7 (by omega)
  have p0 := byL (V / 18446744073709551616) 0 (by omega)
  have p1 := byL (V / 18446744073709551616) 1 (by omega)
  have p2 := byL (V / 18446744073709551616) 2 (by omega)
  have p3 := byL (V / 18446744073709551616) 3 (by omega)
  have p4 := byL (V / 18446744073709551616) 4 (by omega)
  have p5 := byL (V / 18446744073709551616) 5 (by omega)
  have p6 := byL (V / 18446744073709551616) 6 (by omega)
  have p7 := byL (V / 18446744073709551616) 7 (by omega)
  simp only [byH, Nat.reduceAdd] at p0 p1 p2 p3 p4 p5 p6 p7
  unfold codeA
  rw [q0, q1, q2, q3, q4, q5, q6, q7, p0, p1, p2, p3, p4, p5, p6, p7]
theorem codeB_V (V : Nat) : (codeB V 16).toArray = #[.int .u8 ((V / 256 ^ 0 % 256 : Nat) : Int), .int .u8 ((V / 256 ^ 1 % 256 : Nat) : Int), .int .u8 ((V / 256 ^ 2 % 256 : Nat) : Int), .int .u8 ((V / 256 ^ 3 % 256 : Nat) : Int), .int .u8 ((V / 256 ^ 4 % 256 : Nat) : Int), .int .u8 ((V / 256 ^ 5 % 256 : Nat) : Int), .int .u8 ((V / 256 ^ 6 % 256 : Nat) : Int), .int .u8 ((V / 256 ^ 7 % 256 : Nat) : Int), .int .u8 ((V / 256 ^ 8 % 256 : Nat) : Int), .int .u8 ((V / 256 ^ 9 % 256 : Nat) : Int), .int .u8 ((V / 256 ^ 10 % 256 : Nat) : Int), .int .u8 ((V / 256 ^ 11 % 256 : Nat) : Int), .int .u8 ((V / 256 ^ 12 % 256 : Nat) : Int), .int .u8 ((V / 256 ^ 13 % 256 : Nat) : Int), .int .u8 ((V / 256 ^ 14 % 256 : Nat) : Int), .int .u8 ((V / 256 ^ 15 % 256 : Nat) : Int)] := by
  unfold codeB
  simp only [List.range, List.range.loop, List.map_cons, List.map_nil, Nat.reduceLT, if_true]
theorem code_end (kb : Nat → Int) (hk : ∀ i, 0 ≤ kb i ∧ kb i ≤ 255) {s : Nat × Nat × Nat} {v : Nat} (hs : StV s v) : codeA (cLo (elo s.1 s.2.1 s.2.2) kb) (cHi (elo s.1 s.2.1 s.2.2) (pemi s.1 s.2.1 s.2.2) kb) = (codeB (v + vl (((List.range 16).map fun i => kb (16 + i)).map Int.toNat)) 16).toArray := by
  have hd := hs.done
  have hl := elo_lt s.1 s.2.1 s.2.2 hs.l
  have hm := emi_lt s.1 s.2.1 s.2.2 hs.m
  generalize elo s.1 s.2.1 s.2.2 = lo at *
  generalize pemi s.1 s.2.1 s.2.2 = mi at *
  have a2 := nat_le hk 16
  have a3 := nat_le hk 24
  simp only [Nat.reduceAdd] at a2 a3
  rw [key_hi, codeB_V]
  unfold cLo cHi
  rw [cLo_eq (S1 := L8 (fun i => (kb (24 + i)).toNat)) a2.1 hd hl, cHi_eq a2.1 a3.1 hd hl hm, codeA_V]
end Go.Proofs.Yteopejjlhmghbaa
namespace Go.Proofs.Yteopejjlhmghbaa
open Go Go.RowKit
set_option linter.unusedVariables false
set_option linter.unusedSimpArgs false
theorem TR.zero (l m h : Nat) : TR l m h 0 0 0 0 0 := ⟨0, 0, 0, 0, 0, 0, 0, 0, 0, 0, 0, 0, 0, 0, 0, 0, 0, 0, 0, 0, 0, 0, 0, 0, 0, 0, 0, 0, 0, 0, 0, 0, 0, 0, 0, ⟨by simp, by simp⟩, ⟨by simp, by simp⟩, ⟨by simp, by simp⟩, ⟨by simp, by simp⟩, ⟨by simp, by simp⟩, ⟨by simp, by simp⟩, ⟨rfl, rfl⟩, ⟨rfl, rfl⟩, ⟨rfl, rfl⟩, ⟨rfl, rfl⟩, ⟨rfl, rfl⟩, ⟨rfl, rfl⟩, ⟨rfl, rfl⟩, ⟨rfl, rfl⟩, ⟨rfl, rfl⟩, ⟨rfl, rfl⟩, ⟨rfl⟩, ⟨rfl, rfl⟩, ⟨rfl, rfl⟩, rfl⟩
theorem KR.zero (bh l m h W0 W1 : Nat) : KR bh l m h 0 0 W0 W1 0 0 0 := ⟨_, _, _, _, _, _, _, _, ⟨rfl, rfl⟩, ⟨rfl, rfl⟩, ⟨rfl, rfl⟩, ⟨rfl, rfl⟩, TR.zero _ _ _⟩
end Go.Proofs.Yteopejjlhmghbaa
namespace Go.Proofs.Yteopejjlhmghbaa
open Go Go.RowKit
set_option linter.unusedVariables false
set_option linter.unusedSimpArgs false
theorem KR.next (bh l m h rl rh W0 W1 : Nat) : ∃ s : Nat × Nat × Nat, KR bh l m h rl rh W0 W1 s.1 s.2.1 s.2.2 := by
  obtain ⟨a, b, c, h⟩ := KR.total bh l m h rl rh W0 W1
  exact ⟨(a, b, c), h⟩
noncomputable def stS (rl rh : Nat) (W0 W1 : Nat → Nat) : Nat → Nat × Nat × Nat
  | 0 => (0, 0, 0)
  | j + 1 => Classical.choose (KR.next 1 (stS rl rh W0 W1 j).1 (stS rl rh W0 W1 j).2.1 (stS rl rh W0 W1 j).2.2 rl rh (W0 j) (W1 j))
theorem stS_next (rl rh : Nat) (W0 W1 : Nat → Nat) (j : Nat) : KR 1 (stS rl rh W0 W1 j).1 (stS rl rh W0 W1 j).2.1 (stS rl rh W0 W1 j).2.2 rl rh (W0 j) (W1 j) (stS rl rh W0 W1 (j + 1)).1 (stS rl rh W0 W1 (j + 1)).2.1 (stS rl rh W0 W1 (j + 1)).2.2 := by
  exact Classical.choose_spec (KR.next 1 (stS rl rh W0 W1 j).1 (stS rl rh W0 W1 j).2.1 (stS rl rh W0 W1 j).2.2 rl rh (W0 j) (W1 j))
theorem stS_lt (rl rh : Nat) (W0 W1 : Nat → Nat) : ∀ j, (stS rl rh W0 W1 j).1 < 18446744073709551616 ∧ (stS rl rh W0 W1 j).2.1 < 18446744073709551616 ∧ (stS rl rh W0 W1 j).2.2 < 18446744073709551616
  | 0 => (by decide : (0 : Nat) < 18446744073709551616 ∧ (0 : Nat) < 18446744073709551616 ∧ (0 : Nat) < 18446744073709551616)
  | j + 1 => (stS_next rl rh W0 W1 j).lt
end Go.Proofs.Yteopejjlhmghbaa
namespace Go.Proofs.Yteopejjlhmghbaa
open Go Go.RowKit
set_option linter.unusedVariables false
set_option linter.unusedSimpArgs false
structure Prt where
  a : Option Addr
  len : Nat
  cap : Nat
  xs : List Int
def Prt.v (p : Prt) : Value := .slice p.a p.len p.cap
structure Prt.Ok (w : World) (p : Prt) : Prop where
  s : SlE (Value.int .u8) w p.a p.xs
  l : p.xs.length = p.len
  c : p.len ≤ p.cap
  r : ∀ x ∈ p.xs, 0 ≤ x ∧ x ≤ 255
def joined (ps : List Prt) : List Int := ps.flatMap (·.xs)
def off (ps : List Prt) (i : Nat) : Nat := (joined (ps.take i)).length
theorem part_at {ps : List Prt} {i : Nat} {p : Prt} (h : ps[i]? = some p) (hl : p.xs.length = p.len) : (joined ps).drop (off ps i) = p.xs ++ joined (ps.drop (i + 1)) ∧ off ps (i + 1) = off ps i + p.len ∧ off ps (i + 1) ≤ (joined ps).length := by
  have hi : i < ps.length := (List.getElem?_eq_some_iff.1 h).1
  have hp : ps[i] = p := (List.getElem?_eq_some_iff.1 h).2
  have e0 : ps.take (i + 1) = ps.take i ++ [p] := by rw [List.take_add_one, h]; rfl
  have e1 : joined ps = joined (ps.take i) ++ (p.xs ++ joined (ps.drop (i + 1))) := by
    have h3 : joined (ps.take (i + 1)) = joined (ps.take i) ++ p.xs := by rw [e0]; simp [joined]
    have h2 : joined ps = joined (ps.take (i + 1)) ++ joined (ps.drop (i + 1)) := by
      unfold joined
      rw [← List.flatMap_append, List.take_append_drop]
    rw [h2, h3, List.append_assoc]
  have e2 : off ps (i + 1) = off ps i + p.len := by
    unfold off
    rw [e0]
    simp [joined, hl]
  refine ⟨?_, e2, ?_⟩
  · rw [e1]; unfold off; rw [List.drop_left]
  · rw [e2, e1]; simp [off]; omega
theorem off_all (ps : List Prt) : off ps ps.length = (joined ps).length := by unfold off; rw [List.take_length]
structure HP (H : Array Value) (f : Nat → Int) (c : Nat) : Prop where
  size : H.size = 16
  pre : H.toList.take c = (List.range c).map fun q => Value.int .u8 (f q)
theorem HP.copy {H : Array Value} {f : Nat → Int} {c n : Nat} (h : HP H f c) (hc : c + n ≤ 16) : HP (setA H c ((List.range n).map fun q => Value.int .u8 (f (c + q)))) f (c + n) := by
  refine ⟨by rw [setA_size]; exact h.size, ?_⟩
  rw [setA_toList _ _ _ (by rw [List.length_map, List.length_range, h.size]; exact hc), h.pre]
  rw [List.take_append_of_le_length (by simp), List.take_of_length_le (by simp), List.range_add, List.map_append, List.map_map]
  rfl
theorem HP.set0 {H : Array Value} {f : Nat → Int} {n : Nat} (h : H.size = 16) (hn : n ≤ 16) : HP (setA H 0 ((List.range n).map fun q => Value.int .u8 (f q))) f n := by
  have h0 : HP H f 0 := ⟨h, by simp⟩
  have := h0.copy (n := n) (by omega)
  simpa using this
theorem HP.all {H : Array Value} {f : Nat → Int} (h : HP H f 16) : (H.toList.drop 0).take 16 = [.int .u8 (f 0), .int .u8 (f 1), .int .u8 (f 2), .int .u8 (f 3), .int .u8 (f 4), .int .u8 (f 5), .int .u8 (f 6), .int .u8 (f 7), .int .u8 (f 8), .int .u8 (f 9), .int .u8 (f 10), .int .u8 (f 11), .int .u8 (f 12), .int .u8 (f 13), .int .u8 (f 14), .int .u8 (f 15)] := by
  rw [List.drop_zero, h.pre]; rfl
theorem fq_c (X : List Int) (d : Nat) (q : Nat) : fq X (d / 16) (d % 16 + q) = X.getD (d + q) 0 := by
  unfold fq
  congr 1
  omega
structure Left (w : World) (X : List Int) (dE : Nat) (z : Nat × Option Addr × Nat × Array Value × Nat) (m0 : Nat) : Prop where
  j : 16 * z.1 ≤ dE
  s : SlE (Value.int .u8) w z.2.1 ((X.drop (16 * z.1)).take (dE - 16 * z.1))
  c : dE - 16 * z.1 ≤ z.2.2.1
  h : z.2.2.2.1.size = 16
  m : m0 + 2 ≤ z.2.2.2.2
set_option maxRecDepth 100000 in
set_option maxHeartbeats 1000000 in
theorem code_parts (kb : Nat → Int) (hk : ∀ i, 0 ≤ kb i ∧ kb i ≤ 255) (ps : List Prt) (gp cp0 : Nat) (X : List Int) (hXe : X = joined ps) (hn : ps.length ≤ 1000) (hXl : X.length ≤ 100000) (w : World) (hps : ∀ p ∈ ps, p.Ok w) (hO : Old w gp 0 (ps.map Prt.v)) :
    CA Try.prog 49 [.agg (keyA kb), .slice (some ⟨gp, 0, none⟩) ps.length cp0] w (RV (.agg (codeB (accV (vl (rcl kb)) (X.map Int.toNat) (nbl X.length) + vl (((List.range 16).map fun i => kb (16 + i)).map Int.toNat)) 16).toArray) w) := by
  obtain ⟨rl, rh, eL, eH, hrl0, hrh0, hR⟩ := r_key kb hk
  have hrl : rl < 18446744073709551616 := by omega
  have hrh : rh < 18446744073709551616 := by omega
  have hXb : ∀ x ∈ X, 0 ≤ x ∧ x ≤ 255 := by
    intro x hx
    rw [hXe] at hx
    obtain ⟨p, hp, hx⟩ := List.mem_flatMap.1 hx
    exact (hps p hp).r x hx
  have hX : ∀ j i, 0 ≤ fq X j i ∧ fq X j i ≤ 255 := fun j i => getD_bd' hXb j i
  have hSl := stS_lt rl rh (fun j => wd0 (fq X j)) (fun j => wd1 (fq X j))
  have hSV : ∀ j, 16 * j ≤ X.length → StV (stS rl rh (fun j => wd0 (fq X j)) (fun j => wd1 (fq X j)) j) (accV (vl (rcl kb)) (X.map Int.toNat) j) := by
    intro j
    induction j with
    | zero => intro _; exact StV.zero
    | succ j ih =>
      intro hj
      exact (ih (by omega)).next (bh := 1) (by omega) (stS_next rl rh _ _ j) (hSl _) (wd0_eq (hX j)).2 (wd1_eq (hX j)).2 (blk_full X j (by omega)) hrl0 hrh0 hR
  have hbg : ∀ w, CA Try.prog 67 [.agg (keyA kb)] w (RV (.agg #[.int .u64 0, .int .u64 0, .int .u64 0, .int .u64 (rl : Int), .int .u64 (rh : Int)]) w) := fun w => by
    have := pbegin_c kb hk w
    rwa [eL, eH] at this
  refine enter (L := []) (X := []) Try.func49 rfl Try.ntmps49 rfl rfl (Has.nil _) ?_
  repeat (first | refine c_seq ?_ | (refine c_region (id := 0) ?_; refine se ?_; refine eb ?_; refine se ?_; refine ea ?_; refine l_nil ?_) | (refine c_region (id := 1) ?_; refine sq (by first | exact qlb | exact qlr) ?_; refine se ?_; refine ecp rfl rfl (fun w hC hm hL => hbg w) ?_; intro m' hm'; refine se ?_; refine ea ?_; refine se ?_; refine esa ?_; refine l_nil ?_) | (refine c_region (id := 2) ?_; refine se ?_; refine ea ?_; refine l_nil ?_) | (refine c_region (id := 3) ?_; refine sq qa ?_; refine l_nil ?_) | (refine c_region (id := 4) ?_; refine sq qm ?_; refine sq qls ?_; refine sq qm ?_; refine l_nil ?_) | refine n_then ?_ | refine c_block ?_ | refine c_skip ?_ | refine n_block ?_ | refine c_exit ?_ | refine n_then_exit ?_ | refine n_block_eq ?_ | refine n_block_ne rfl ?_ | refine c_ret ?_ | refine n_then_ret ?_ | refine n_block_ret ?_ | refine c_cond_t rfl ?_ | refine c_cond_f rfl ?_ | refine r_succ ?_ )
  have e00 : off ps 0 = 0 := by simp [off, joined]
  refine chg (L' := [.blk (m' + 1) (.cells #[.int .u8 0, .int .u8 0, .int .u8 0, .int .u8 0, .int .u8 0, .int .u8 0, .int .u8 0, .int .u8 0, .int .u8 0, .int .u8 0, .int .u8 0, .int .u8 0, .int .u8 0, .int .u8 0, .int .u8 0, .int .u8 0] 63 (0, 0)), .blk m' (.cells #[.int .u64 (((stS rl rh (fun j => wd0 (fq X j)) (fun j => wd1 (fq X j)) (off ps 0 / 16)).1 : Nat) : Int), .int .u64 (((stS rl rh (fun j => wd0 (fq X j)) (fun j => wd1 (fq X j)) (off ps 0 / 16)).2.1 : Nat) : Int), .int .u64 (((stS rl rh (fun j => wd0 (fq X j)) (fun j => wd1 (fq X j)) (off ps 0 / 16)).2.2 : Nat) : Int), .int .u64 (rl : Int), .int .u64 (rh : Int)] 108 (0, 0)), .blk (w.heap.size + 1) (.cells #[.int .u8 0, .int .u8 0, .int .u8 0, .int .u8 0, .int .u8 0, .int .u8 0, .int .u8 0, .int .u8 0, .int .u8 0, .int .u8 0, .int .u8 0, .int .u8 0, .int .u8 0, .int .u8 0, .int .u8 0, .int .u8 0] 63 (0, 0)), .blk w.heap.size (.cells (keyA kb) 32 (0, 0))]) (by rw [e00]; rfl) ?_
  refine c_loop (γ := Nat × Array Value × Nat) (fun z => [(15, .int .i64 z.1), (7, .int .i64 ((off ps z.1 % 16 : Nat) : Int)), (5, .pointer (some ⟨m', 0, none⟩)), (6, .pointer (some ⟨m' + 1, 0, none⟩)), (2, .pointer (some ⟨w.heap.size, 0, none⟩)), (4, .pointer (some ⟨w.heap.size + 1, 0, none⟩)), (13, .slice (some ⟨gp, 0, none⟩) ps.length cp0), (14, .int .i64 ps.length)]) (fun z => z.2.2) (fun z => [.blk (m' + 1) (.cells z.2.1 63 (0, 0)), .blk m' (.cells #[.int .u64 (((stS rl rh (fun j => wd0 (fq X j)) (fun j => wd1 (fq X j)) (off ps z.1 / 16)).1 : Nat) : Int), .int .u64 (((stS rl rh (fun j => wd0 (fq X j)) (fun j => wd1 (fq X j)) (off ps z.1 / 16)).2.1 : Nat) : Int), .int .u64 (((stS rl rh (fun j => wd0 (fq X j)) (fun j => wd1 (fq X j)) (off ps z.1 / 16)).2.2 : Nat) : Int), .int .u64 (rl : Int), .int .u64 (rh : Int)] 108 (0, 0)), .blk (w.heap.size + 1) (.cells #[.int .u8 0, .int .u8 0, .int .u8 0, .int .u8 0, .int .u8 0, .int .u8 0, .int .u8 0, .int .u8 0, .int .u8 0, .int .u8 0, .int .u8 0, .int .u8 0, .int .u8 0, .int .u8 0, .int .u8 0, .int .u8 0] 63 (0, 0)), .blk w.heap.size (.cells (keyA kb) 32 (0, 0))]) (fun z => z.1 ≤ ps.length ∧ HP z.2.1 (fq X (off ps z.1 / 16)) (off ps z.1 % 16) ∧ m' + 2 ≤ z.2.2) (fun z => ps.length - z.1) ⟨0, #[.int .u8 0, .int .u8 0, .int .u8 0, .int .u8 0, .int .u8 0, .int .u8 0, .int .u8 0, .int .u8 0, .int .u8 0, .int .u8 0, .int .u8 0, .int .u8 0, .int .u8 0, .int .u8 0, .int .u8 0, .int .u8 0], m' + 1 + 1⟩ ⟨by simp, ⟨rfl, by simp [off, joined]⟩, by simp⟩ (by exact ⟨rfl, by dsimp only; rw [e00]; rfl, rfl, rfl, rfl, rfl, rfl, rfl, trivial⟩) rfl (by (repeat (first | exact List.nil_sublist _ | exact List.Sublist.slnil | apply List.Sublist.cons_cons | exact List.Sublist.refl _ | apply List.Sublist.cons))) ?_
  rintro ⟨i, H, mm⟩ ⟨hi, hH, hmm⟩
  dsimp only at hi hH hmm ⊢
  repeat (first | refine c_seq ?_ | (refine c_region (id := 5) ?_; refine sq qlss ?_; refine l_nil ?_) | refine n_then ?_ | refine c_block ?_ | refine c_skip ?_ | refine n_block ?_ | refine c_exit ?_ | refine n_then_exit ?_ | refine n_block_eq ?_ | refine n_block_ne rfl ?_ | refine c_ret ?_ | refine n_then_ret ?_ | refine n_block_ret ?_ | refine c_cond_t rfl ?_ | refine c_cond_f rfl ?_ | refine r_succ ?_ )
  refine c_cond_dec rfl (fun h => ?_) (fun h => ?_)
  · have hi2 : i < ps.length := by omega
    obtain ⟨p, hp⟩ : ∃ p, ps[i]? = some p := ⟨_, List.getElem?_eq_getElem hi2⟩
    have hok := hps p (List.mem_of_getElem? hp)
    obtain ⟨hP1, hP2, hP3⟩ := part_at hp hok.l
    rw [← hXe] at hP1 hP3
    have hpl := hok.l
    have hpc := hok.c
    have hpx : (X.drop (off ps i)).take p.len = p.xs := by rw [hP1, ← hpl, List.take_left]
    have hpv : nth (ps.map Prt.v) i = some (.slice p.a p.len p.cap) := nth_map (enc := Prt.v) hp
    obtain ⟨c, hc⟩ : ∃ c, c = off ps i % 16 := ⟨_, rfl⟩
    obtain ⟨j0, hj0⟩ : ∃ j0, j0 = off ps i / 16 := ⟨_, rfl⟩
    have hcj : off ps i = 16 * j0 + c := by omega
    have hfq : ∀ q, fq X j0 (c + q) = X.getD (off ps i + q) 0 := fun q => by rw [hc, hj0]; exact fq_c X _ q
    rw [← hc, ← hj0] at hH ⊢
    refine c_skip ?_
    refine n_then ?_
    refine c_seq ?_
    refine c_block ?_
    refine c_seq ?_
    refine c_region (id := 6) ?_
    refine sq (by exact q_indexAddr_sl (o' := 0 + i) rfl rfl (by omega) (by omega) (by omega)) ?_
    refine sq ql ?_
    refine sq qa ?_
    refine l_nil ?_
    refine n_then ?_
    refine c_join (γ := Nat × Option Addr × Nat × Array Value × Nat) (fun z => [(9, .slice z.2.1 (off ps i + p.len - 16 * z.1) z.2.2.1), (15, .int .i64 i), (5, .pointer (some ⟨m', 0, none⟩)), (6, .pointer (some ⟨m' + 1, 0, none⟩)), (2, .pointer (some ⟨w.heap.size, 0, none⟩)), (4, .pointer (some ⟨w.heap.size + 1, 0, none⟩)), (13, .slice (some ⟨gp, 0, none⟩) ps.length cp0), (14, .int .i64 ps.length)]) (fun z => z.2.2.2.2) (fun z => [.blk (m' + 1) (.cells z.2.2.2.1 63 (0, 0)), .blk m' (.cells #[.int .u64 (((stS rl rh (fun j => wd0 (fq X j)) (fun j => wd1 (fq X j)) z.1).1 : Nat) : Int), .int .u64 (((stS rl rh (fun j => wd0 (fq X j)) (fun j => wd1 (fq X j)) z.1).2.1 : Nat) : Int), .int .u64 (((stS rl rh (fun j => wd0 (fq X j)) (fun j => wd1 (fq X j)) z.1).2.2 : Nat) : Int), .int .u64 (rl : Int), .int .u64 (rh : Int)] 108 (0, 0)), .blk (w.heap.size + 1) (.cells #[.int .u8 0, .int .u8 0, .int .u8 0, .int .u8 0, .int .u8 0, .int .u8 0, .int .u8 0, .int .u8 0, .int .u8 0, .int .u8 0, .int .u8 0, .int .u8 0, .int .u8 0, .int .u8 0, .int .u8 0, .int .u8 0] 63 (0, 0)), .blk w.heap.size (.cells (keyA kb) 32 (0, 0))]) (fun z => Left w X (off ps i + p.len) z m') ?_ ?_
    · refine c_seq ?_
      by_cases hc0 : c = 0
      · repeat (first | refine c_seq ?_ | (refine c_region (id := 7) ?_; refine sq qm ?_; refine sq (by first | exact dgtrt | exact dgtrf) ?_; refine l_nil ?_) | refine n_then ?_ | refine c_block ?_ | refine c_skip ?_ | refine n_block ?_ | refine c_exit ?_ | refine n_then_exit ?_ | refine n_block_eq ?_ | refine n_block_ne rfl ?_ | refine c_ret ?_ | refine n_then_ret ?_ | refine n_block_ret ?_ | refine c_cond_t rfl ?_ | refine c_cond_f rfl ?_ | refine r_succ ?_ )
        refine c_joined ⟨j0, p.a, p.cap, H, mm⟩ ⟨by dsimp only; omega, by
          dsimp only
          rw [show off ps i + p.len - 16 * j0 = p.len by omega, show 16 * j0 = off ps i by omega, hpx]; exact hok.s, by dsimp only; omega, hH.size, hmm⟩ (by exact ⟨by dsimp only; rw [show off ps i + p.len - 16 * j0 = p.len by omega]; rfl, rfl, rfl, rfl, rfl, rfl, rfl, rfl, trivial⟩) (by rfl) (by (repeat (first | exact List.nil_sublist _ | exact List.Sublist.slnil | apply List.Sublist.cons_cons | exact List.Sublist.refl _ | apply List.Sublist.cons)))
      · by_cases hbig : 16 ≤ c + p.len
        · obtain ⟨g, o, hpa, hOp⟩ := hok.s.get (i := 0) (by omega)
          have hseg : Old w g o ((List.range (16 - c)).map fun q => Value.int .u8 (fq X j0 (c + q))) := by
            have h1 := hOp.tak (16 - c)
            rw [← hpx, seg (by omega) (by omega)] at h1
            simpa only [hfq] using h1
          obtain ⟨pa, hpa2⟩ : ∃ pa, pa = p.a := ⟨_, rfl⟩
          repeat (first | refine c_seq ?_ | (refine c_region (id := 7) ?_; refine sq qm ?_; refine sq (by first | exact dgtrt | exact dgtrf) ?_; refine l_nil ?_) | refine n_then ?_ | refine c_block ?_ | refine c_skip ?_ | refine n_block ?_ | refine c_exit ?_ | refine n_then_exit ?_ | refine n_block_eq ?_ | refine n_block_ne rfl ?_ | refine c_ret ?_ | refine n_then_ret ?_ | refine n_block_ret ?_ | refine c_cond_t rfl ?_ | refine c_cond_f rfl ?_ | refine r_succ ?_ )
          rw [show Value.slice p.a p.len p.cap = Value.slice (some ⟨g, o, none⟩) p.len p.cap by rw [hpa]]
          repeat (first | refine c_seq ?_ | (refine c_region (id := 8) ?_; refine sq qm ?_; refine sq (by exact q_slice_arr (o' := c) (len' := 16 - c) (cap' := 16 - c) rfl rfl rfl (by omega) (by omega) (by omega) (by rw [Int.toNat_natCast, if_neg (by omega)]; omega) (by omega) (by omega)) ?_; refine sq qm ?_; refine se ?_; have hF : HP (setA H c ((List.range (16 - c)).map fun q => Value.int .u8 (fq X j0 (c + q)))) (fq X j0) 16 := (by have := hH.copy (n := 16 - c) (by omega); rwa [show c + (16 - c) = 16 by omega] at this); refine e_copy (news := ((List.range (16 - c)).map fun q => Value.int .u8 (fq X j0 (c + q)))) (k := (16 - c)) rfl rfl rfl (RdN.old hseg (by simp)) (by simp; omega) (allOne_map _ _) (by (repeat (first | exact Pl.here | apply Pl.there))) (by rw [List.length_map, List.length_range, hH.size]; omega) (by first | (left; simp; done) | (right; omega)) (by simp) ?_; refine sq qa ?_; refine l_nil ?_) | (refine c_region (id := 9) ?_; refine sq qm ?_; refine sq qm ?_; refine sq (by exact Qt.cast (v' := .int .i64 ((16 : Nat) : Int)) (congrArg (Value.int .i64) (by omega)) (q_add64 rfl rfl ⟨by omega, by omega⟩ rfl)) ?_; refine sq qa ?_; refine l_nil ?_) | (refine c_region (id := 10) ?_; refine sq qm ?_; refine sq qm ?_; refine sq (by exact q_slice (b' := if p.cap = (16 - c) then (some (⟨g, o, none⟩ : Addr)) else (some (⟨g, o, none⟩ : Addr)).map (·.add ((16 - c) * 1))) (len' := p.len - (16 - c)) (cap' := p.cap - (16 - c)) rfl rfl rfl (by omega) (by omega) (by omega) (by omega) (by rw [Int.toNat_natCast]) (by omega) (by omega)) ?_; refine sq qa ?_; refine l_nil ?_) | (refine c_region (id := 11) ?_; refine sq qm ?_; refine sq (by first | exact dlsst | exact dlssf) ?_; refine l_nil ?_) | (refine c_region (id := 12) ?_; refine sq (by exact q_slice_arr (o' := 0) (len' := 16) (cap' := 16) rfl rfl rfl (by omega) (by omega) (by omega) (by simp) (by simp) (by simp)) ?_; refine se ?_; refine e_call_upd rfl rfl (by kernel_rfl) rfl (fun w hC hm hL => by exact take_full _ _ _ _ rl rh _ _ _ _ _ (m' + 1) (0) 16 (by omega) (fq X (j0)) (hX _) (wd0_eq (hX _)).1 (wd1_eq (hX _)).1 (wd0_eq (hX _)).2 (wd1_eq (hX _)).2 (stS_next rl rh _ _ (j0)) (hSl _).1 (hSl _).2.1 (hSl _).2.2 hrl hrh (by omega) w (hL.old (k := 16) (by (repeat (first | exact List.Mem.head _ | apply List.Mem.tail))) (by exact hF.all)) (hL.sub (by (repeat (first | exact List.nil_sublist _ | exact List.Sublist.slnil | apply List.Sublist.cons_cons | exact List.Sublist.refl _ | apply List.Sublist.cons))))) (by (repeat (first | exact Pl.here | apply Pl.there))) (by first | (left; simp; done) | (right; omega)) ?_; intro m9 hm9; refine l_nil ?_) | refine n_then ?_ | refine c_block ?_ | refine c_skip ?_ | refine n_block ?_ | refine c_exit ?_ | refine n_then_exit ?_ | refine n_block_eq ?_ | refine n_block_ne rfl ?_ | refine c_ret ?_ | refine n_then_ret ?_ | refine n_block_ret ?_ | refine c_cond_t rfl ?_ | refine c_cond_f rfl ?_ | refine r_succ ?_ )
          refine c_joined ⟨j0 + 1, if p.cap = 16 - c then (some (⟨g, o, none⟩ : Addr)) else (some (⟨g, o, none⟩ : Addr)).map (·.add ((16 - c) * 1)), p.cap - (16 - c), setA H c ((List.range (16 - c)).map fun q => Value.int .u8 (fq X j0 (c + q))), m9⟩ ⟨by dsimp only; omega, by
            dsimp only
            rw [show off ps i + p.len - 16 * (j0 + 1) = p.len - (16 - c) by omega, show 16 * (j0 + 1) = off ps i + (16 - c) by omega, ← List.drop_drop, ← hpa]
            have h1 := hok.s.part (16 - c) p.len p.cap (by omega) (by omega) (by omega)
            rw [← hpx, List.drop_take, List.take_take, Nat.min_self] at h1
            exact h1, by dsimp only; omega, by dsimp only; rw [setA_size]; exact hH.size, by dsimp only; omega⟩ (by exact ⟨by dsimp only; rw [show off ps i + p.len - 16 * (j0 + 1) = p.len - (16 - c) by omega]; rfl, rfl, rfl, rfl, rfl, rfl, rfl, rfl, trivial⟩) (by rfl) (by (repeat (first | exact List.nil_sublist _ | exact List.Sublist.slnil | apply List.Sublist.cons_cons | exact List.Sublist.refl _ | apply List.Sublist.cons)))
        · have hnx : off ps (i + 1) / 16 = j0 ∧ off ps (i + 1) % 16 = c + p.len := by omega
          by_cases hz : p.len = 0
          · repeat (first | refine c_seq ?_ | (refine c_region (id := 7) ?_; refine sq qm ?_; refine sq (by first | exact dgtrt | exact dgtrf) ?_; refine l_nil ?_) | (refine c_region (id := 8) ?_; refine sq qm ?_; refine sq (by exact q_slice_arr (o' := c) (len' := 16 - c) (cap' := 16 - c) rfl rfl rfl (by omega) (by omega) (by omega) (by rw [Int.toNat_natCast, if_neg (by omega)]; omega) (by omega) (by omega)) ?_; refine sq qm ?_; refine se ?_; refine e_copy_none rfl rfl rfl (by omega) ?_; refine sq qa ?_; refine l_nil ?_) | (refine c_region (id := 9) ?_; refine sq qm ?_; refine sq qm ?_; refine sq (by exact Qt.cast (v' := .int .i64 ((c + p.len : Nat) : Int)) (congrArg (Value.int .i64) (by omega)) (q_add64 rfl rfl ⟨by omega, by omega⟩ rfl)) ?_; refine sq qa ?_; refine l_nil ?_) | (refine c_region (id := 10) ?_; refine sq qm ?_; refine sq qm ?_; refine sq (by exact q_slice (b' := if p.cap = 0 then p.a else p.a.map (·.add (0 * 1))) (len' := p.len - 0) (cap' := p.cap - 0) rfl rfl rfl (by omega) (by omega) (by omega) (by omega) (by rw [Int.toNat_zero]) (by omega) (by omega)) ?_; refine sq qa ?_; refine l_nil ?_) | (refine c_region (id := 11) ?_; refine sq qm ?_; refine sq (by first | exact dlsst | exact dlssf) ?_; refine l_nil ?_) | (refine c_region (id := 17) ?_; refine sq qadd64 ?_; refine sq qm ?_; refine l_nil ?_) | refine n_then ?_ | refine c_block ?_ | refine c_skip ?_ | refine n_block ?_ | refine c_exit ?_ | refine n_then_exit ?_ | refine n_block_eq ?_ | refine n_block_ne rfl ?_ | refine c_ret ?_ | refine n_then_ret ?_ | refine n_block_ret ?_ | refine c_cond_t rfl ?_ | refine c_cond_f rfl ?_ | refine r_succ ?_ )
            refine c_round ⟨i + 1, H, mm⟩ ⟨by dsimp only; omega, by dsimp only; rw [hnx.1, hnx.2, hz]; exact hH, hmm⟩ (by dsimp only; omega) (by exact ⟨rfl, by dsimp only; rw [hnx.2]; rfl, rfl, rfl, rfl, rfl, rfl, rfl, trivial⟩) (by rfl) (by rw [hnx.1]; exact (by (repeat (first | exact List.nil_sublist _ | exact List.Sublist.slnil | apply List.Sublist.cons_cons | exact List.Sublist.refl _ | apply List.Sublist.cons))))
          · obtain ⟨g, o, hpa, hOp⟩ := hok.s.get (i := 0) (by omega)
            have hseg : Old w g o ((List.range p.len).map fun q => Value.int .u8 (fq X j0 (c + q))) := by
              have h1 := hOp.tak p.len
              rw [← hpx, seg (by omega) (by omega)] at h1
              simpa only [hfq] using h1
            repeat (first | refine c_seq ?_ | (refine c_region (id := 7) ?_; refine sq qm ?_; refine sq (by first | exact dgtrt | exact dgtrf) ?_; refine l_nil ?_) | refine n_then ?_ | refine c_block ?_ | refine c_skip ?_ | refine n_block ?_ | refine c_exit ?_ | refine n_then_exit ?_ | refine n_block_eq ?_ | refine n_block_ne rfl ?_ | refine c_ret ?_ | refine n_then_ret ?_ | refine n_block_ret ?_ | refine c_cond_t rfl ?_ | refine c_cond_f rfl ?_ | refine r_succ ?_ )
            rw [show Value.slice p.a p.len p.cap = Value.slice (some ⟨g, o, none⟩) p.len p.cap by rw [hpa]]
            repeat (first | refine c_seq ?_ | (refine c_region (id := 8) ?_; refine sq qm ?_; refine sq (by exact q_slice_arr (o' := c) (len' := 16 - c) (cap' := 16 - c) rfl rfl rfl (by omega) (by omega) (by omega) (by rw [Int.toNat_natCast, if_neg (by omega)]; omega) (by omega) (by omega)) ?_; refine sq qm ?_; refine se ?_; refine e_copy (news := ((List.range p.len).map fun q => Value.int .u8 (fq X j0 (c + q)))) (k := p.len) rfl rfl rfl (RdN.old hseg (by simp)) (by simp; omega) (allOne_map _ _) (by (repeat (first | exact Pl.here | apply Pl.there))) (by rw [List.length_map, List.length_range, hH.size]; omega) (by first | (left; simp; done) | (right; omega)) (by simp) ?_; refine sq qa ?_; refine l_nil ?_) | (refine c_region (id := 9) ?_; refine sq qm ?_; refine sq qm ?_; refine sq (by exact Qt.cast (v' := .int .i64 ((c + p.len : Nat) : Int)) (congrArg (Value.int .i64) (by omega)) (q_add64 rfl rfl ⟨by omega, by omega⟩ rfl)) ?_; refine sq qa ?_; refine l_nil ?_) | (refine c_region (id := 10) ?_; refine sq qm ?_; refine sq qm ?_; refine sq (by exact q_slice (b' := if p.cap = p.len then (some (⟨g, o, none⟩ : Addr)) else (some (⟨g, o, none⟩ : Addr)).map (·.add (p.len * 1))) (len' := p.len - p.len) (cap' := p.cap - p.len) rfl rfl rfl (by omega) (by omega) (by omega) (by omega) (by rw [Int.toNat_natCast]) (by omega) (by omega)) ?_; refine sq qa ?_; refine l_nil ?_) | (refine c_region (id := 11) ?_; refine sq qm ?_; refine sq (by first | exact dlsst | exact dlssf) ?_; refine l_nil ?_) | (refine c_region (id := 17) ?_; refine sq qadd64 ?_; refine sq qm ?_; refine l_nil ?_) | refine n_then ?_ | refine c_block ?_ | refine c_skip ?_ | refine n_block ?_ | refine c_exit ?_ | refine n_then_exit ?_ | refine n_block_eq ?_ | refine n_block_ne rfl ?_ | refine c_ret ?_ | refine n_then_ret ?_ | refine n_block_ret ?_ | refine c_cond_t rfl ?_ | refine c_cond_f rfl ?_ | refine r_succ ?_ )
            refine c_round ⟨i + 1, setA H c ((List.range p.len).map fun q => Value.int .u8 (fq X j0 (c + q))), mm⟩ ⟨by dsimp only; omega, by dsimp only; rw [hnx.1, hnx.2]; exact hH.copy (by omega), hmm⟩ (by dsimp only; omega) (by exact ⟨rfl, by dsimp only; rw [hnx.2]; rfl, rfl, rfl, rfl, rfl, rfl, rfl, trivial⟩) (by rfl) (by rw [hnx.1]; exact (by (repeat (first | exact List.nil_sublist _ | exact List.Sublist.slnil | apply List.Sublist.cons_cons | exact List.Sublist.refl _ | apply List.Sublist.cons))))
    · rintro ⟨j, ba, cp, H, mm⟩ ⟨hj, hs, hcp, hHs, hmm2⟩
      dsimp only at hj hs hcp hHs hmm2 ⊢
      obtain ⟨dE, hdE⟩ : ∃ dE, dE = off ps i + p.len := ⟨_, rfl⟩
      rw [← hdE] at hj hs hcp hP2 ⊢
      have hdX : dE ≤ X.length := by omega
      clear hcj hfq hc hj0 hpx hpv
      repeat (first | refine c_seq ?_ | refine n_then ?_ | refine c_block ?_ | refine c_skip ?_ | refine n_block ?_ | refine c_exit ?_ | refine n_then_exit ?_ | refine n_block_eq ?_ | refine n_block_ne rfl ?_ | refine c_ret ?_ | refine n_then_ret ?_ | refine n_block_ret ?_ | refine c_cond_t rfl ?_ | refine c_cond_f rfl ?_ | refine r_succ ?_ )
      refine c_loop (γ := Nat × Option Addr × Nat × Nat) (fun z => [(9, .slice z.2.1 (dE - 16 * z.1) z.2.2.1), (15, .int .i64 i), (5, .pointer (some ⟨m', 0, none⟩)), (6, .pointer (some ⟨m' + 1, 0, none⟩)), (2, .pointer (some ⟨w.heap.size, 0, none⟩)), (4, .pointer (some ⟨w.heap.size + 1, 0, none⟩)), (13, .slice (some ⟨gp, 0, none⟩) ps.length cp0), (14, .int .i64 ps.length)]) (fun z => z.2.2.2) (fun z => [.blk (m' + 1) (.cells H 63 (0, 0)), .blk m' (.cells #[.int .u64 (((stS rl rh (fun j => wd0 (fq X j)) (fun j => wd1 (fq X j)) z.1).1 : Nat) : Int), .int .u64 (((stS rl rh (fun j => wd0 (fq X j)) (fun j => wd1 (fq X j)) z.1).2.1 : Nat) : Int), .int .u64 (((stS rl rh (fun j => wd0 (fq X j)) (fun j => wd1 (fq X j)) z.1).2.2 : Nat) : Int), .int .u64 (rl : Int), .int .u64 (rh : Int)] 108 (0, 0)), .blk (w.heap.size + 1) (.cells #[.int .u8 0, .int .u8 0, .int .u8 0, .int .u8 0, .int .u8 0, .int .u8 0, .int .u8 0, .int .u8 0, .int .u8 0, .int .u8 0, .int .u8 0, .int .u8 0, .int .u8 0, .int .u8 0, .int .u8 0, .int .u8 0] 63 (0, 0)), .blk w.heap.size (.cells (keyA kb) 32 (0, 0))]) (fun z => 16 * z.1 ≤ dE ∧ SlE (Value.int .u8) w z.2.1 ((X.drop (16 * z.1)).take (dE - 16 * z.1)) ∧ dE - 16 * z.1 ≤ z.2.2.1 ∧ m' + 2 ≤ z.2.2.2) (fun z => dE - 16 * z.1) ⟨j, ba, cp, mm⟩ ⟨hj, hs, hcp, hmm2⟩ (by exact ⟨rfl, rfl, rfl, rfl, rfl, rfl, rfl, rfl, trivial⟩) rfl (by (repeat (first | exact List.nil_sublist _ | exact List.Sublist.slnil | apply List.Sublist.cons_cons | exact List.Sublist.refl _ | apply List.Sublist.cons))) ?_
      rintro ⟨j, ba, cp, mm⟩ ⟨hj, hs, hcp, hmm2⟩
      dsimp only at hj hs hcp hmm2 ⊢
      have hlen : ((X.drop (16 * j)).take (dE - 16 * j)).length = dE - 16 * j := by simp; omega
      repeat (first | refine c_seq ?_ | (refine c_region (id := 13) ?_; refine sq qm ?_; refine sq qls ?_; refine sq qgeq ?_; refine l_nil ?_) | refine n_then ?_ | refine c_block ?_ | refine c_skip ?_ | refine n_block ?_ | refine c_exit ?_ | refine n_then_exit ?_ | refine n_block_eq ?_ | refine n_block_ne rfl ?_ | refine c_ret ?_ | refine n_then_ret ?_ | refine n_block_ret ?_ | refine c_cond_t rfl ?_ | refine c_cond_f rfl ?_ | refine r_succ ?_ )
      refine c_cond_dec rfl (fun hg16 => ?_) (fun hg16 => ?_)
      · obtain ⟨g, o, rfl, hOp⟩ := hs.get (i := 0) (by omega)
        have hO16 : Old w g o [.int .u8 (fq X j 0), .int .u8 (fq X j 1), .int .u8 (fq X j 2), .int .u8 (fq X j 3), .int .u8 (fq X j 4), .int .u8 (fq X j 5), .int .u8 (fq X j 6), .int .u8 (fq X j 7), .int .u8 (fq X j 8), .int .u8 (fq X j 9), .int .u8 (fq X j 10), .int .u8 (fq X j 11), .int .u8 (fq X j 12), .int .u8 (fq X j 13), .int .u8 (fq X j 14), .int .u8 (fq X j 15)] := by
          have h1 := hOp.tak 16
          rw [seg (by omega) (by omega)] at h1
          exact h1
        have hgl := hO16.lt
        repeat (first | refine c_seq ?_ | (refine c_region (id := 14) ?_; refine sq qm ?_; refine sq (by exact q_slice (b' := some ⟨g, o, none⟩) (len' := 16) (cap' := cp) rfl rfl rfl (by omega) (by omega) (by omega) (by omega) (by rw [if_neg (by omega)]; simp [Addr.add_mid]) (by simp) (by simp)) ?_; refine se ?_; refine e_call_upd rfl rfl (by kernel_rfl) rfl (fun w hC hm hL => by exact take_full _ _ _ _ rl rh _ _ _ _ _ (g) (o) cp (by omega) (fq X (j)) (hX _) (wd0_eq (hX _)).1 (wd1_eq (hX _)).1 (wd0_eq (hX _)).2 (wd1_eq (hX _)).2 (stS_next rl rh _ _ (j)) (hSl _).1 (hSl _).2.1 (hSl _).2.2 hrl hrh (by omega) w (hO16.ch hC (by simp)) (hL.sub (by (repeat (first | exact List.nil_sublist _ | exact List.Sublist.slnil | apply List.Sublist.cons_cons | exact List.Sublist.refl _ | apply List.Sublist.cons))))) (by (repeat (first | exact Pl.here | apply Pl.there))) (by first | (left; simp; done) | (right; omega)) ?_; intro m9 hm9; refine l_nil ?_) | (refine c_region (id := 15) ?_; refine sq qm ?_; refine sq (by exact q_slice (b' := if cp = 16 then (some (⟨g, o, none⟩ : Addr)) else (some (⟨g, o, none⟩ : Addr)).map (·.add (16 * 1))) (len' := dE - 16 * (j + 1)) (cap' := cp - 16) rfl rfl rfl (by omega) (by omega) (by omega) (by omega) (by rfl) (by show (dE - 16 * j : Nat) - 16 = _; omega) (by rfl)) ?_; refine sq qa ?_; refine l_nil ?_) | refine n_then ?_ | refine c_block ?_ | refine c_skip ?_ | refine n_block ?_ | refine c_exit ?_ | refine n_then_exit ?_ | refine n_block_eq ?_ | refine n_block_ne rfl ?_ | refine c_ret ?_ | refine n_then_ret ?_ | refine n_block_ret ?_ | refine c_cond_t rfl ?_ | refine c_cond_f rfl ?_ | refine r_succ ?_ )
        refine c_round ⟨j + 1, if cp = 16 then (some (⟨g, o, none⟩ : Addr)) else (some (⟨g, o, none⟩ : Addr)).map (·.add (16 * 1)), cp - 16, m9⟩ ⟨by dsimp only; omega, by
          dsimp only
          have h1 := hs.part 16 (dE - 16 * j) cp (by omega) (by omega) (by omega)
          rw [List.drop_take, List.take_take, Nat.min_self, List.drop_drop, show dE - 16 * j - 16 = dE - 16 * (j + 1) by omega, show 16 * j + 16 = 16 * (j + 1) by omega] at h1
          exact h1, by dsimp only; omega, by dsimp only; omega⟩ (by dsimp only; omega) (by exact ⟨rfl, rfl, rfl, rfl, rfl, rfl, rfl, rfl, trivial⟩) (by rfl) (by (repeat (first | exact List.nil_sublist _ | exact List.Sublist.slnil | apply List.Sublist.cons_cons | exact List.Sublist.refl _ | apply List.Sublist.cons)))
      · have hnx : off ps (i + 1) / 16 = j ∧ off ps (i + 1) % 16 = dE - 16 * j := by omega
        by_cases hz : dE - 16 * j = 0
        · repeat (first | refine c_seq ?_ | (refine c_region (id := 16) ?_; refine sq (by exact q_slice_arr (o' := 0) (len' := 16) (cap' := 16) rfl rfl rfl (by omega) (by omega) (by omega) (by simp) (by simp) (by simp)) ?_; refine sq qm ?_; refine se ?_; refine e_copy_none rfl rfl rfl (by omega) ?_; refine sq qa ?_; refine l_nil ?_) | (refine c_region (id := 17) ?_; refine sq qadd64 ?_; refine sq qm ?_; refine l_nil ?_) | refine n_then ?_ | refine c_block ?_ | refine c_skip ?_ | refine n_block ?_ | refine c_exit ?_ | refine n_then_exit ?_ | refine n_block_eq ?_ | refine n_block_ne rfl ?_ | refine c_ret ?_ | refine n_then_ret ?_ | refine n_block_ret ?_ | refine c_cond_t rfl ?_ | refine c_cond_f rfl ?_ | refine r_succ ?_ )
          refine c_round ⟨i + 1, H, mm⟩ ⟨by dsimp only; omega, by dsimp only; rw [hnx.1, hnx.2, hz]; exact ⟨hHs, by simp⟩, hmm2⟩ (by dsimp only; omega) (by exact ⟨rfl, by dsimp only; rw [hnx.2, hz]; rfl, rfl, rfl, rfl, rfl, rfl, rfl, trivial⟩) (by rfl) (by rw [hnx.1]; exact (by (repeat (first | exact List.nil_sublist _ | exact List.Sublist.slnil | apply List.Sublist.cons_cons | exact List.Sublist.refl _ | apply List.Sublist.cons))))
        · obtain ⟨g, o, rfl, hOp⟩ := hs.get (i := 0) (by omega)
          have hseg : Old w g o ((List.range (dE - 16 * j)).map fun q => Value.int .u8 (fq X j q)) := by
            have h1 := hOp.tak (dE - 16 * j)
            rw [seg (by omega) (by omega)] at h1
            exact h1
          repeat (first | refine c_seq ?_ | (refine c_region (id := 16) ?_; refine sq (by exact q_slice_arr (o' := 0) (len' := 16) (cap' := 16) rfl rfl rfl (by omega) (by omega) (by omega) (by simp) (by simp) (by simp)) ?_; refine sq qm ?_; refine se ?_; refine e_copy (news := ((List.range (dE - 16 * j)).map fun q => Value.int .u8 (fq X j q))) (k := dE - 16 * j) rfl rfl rfl (RdN.old hseg (by simp)) (by simp; omega) (allOne_map _ _) (by (repeat (first | exact Pl.here | apply Pl.there))) (by rw [List.length_map, List.length_range, hHs]; omega) (by first | (left; simp; done) | (right; omega)) (by simp) ?_; refine sq qa ?_; refine l_nil ?_) | (refine c_region (id := 17) ?_; refine sq qadd64 ?_; refine sq qm ?_; refine l_nil ?_) | refine n_then ?_ | refine c_block ?_ | refine c_skip ?_ | refine n_block ?_ | refine c_exit ?_ | refine n_then_exit ?_ | refine n_block_eq ?_ | refine n_block_ne rfl ?_ | refine c_ret ?_ | refine n_then_ret ?_ | refine n_block_ret ?_ | refine c_cond_t rfl ?_ | refine c_cond_f rfl ?_ | refine r_succ ?_ )
          refine c_round ⟨i + 1, setA H 0 ((List.range (dE - 16 * j)).map fun q => Value.int .u8 (fq X j q)), mm⟩ ⟨by dsimp only; omega, by dsimp only; rw [hnx.1, hnx.2]; exact HP.set0 hHs (by omega), hmm2⟩ (by dsimp only; omega) (by exact ⟨rfl, by dsimp only; rw [hnx.2]; rfl, rfl, rfl, rfl, rfl, rfl, rfl, trivial⟩) (by rfl) (by rw [hnx.1]; exact (by (repeat (first | exact List.nil_sublist _ | exact List.Sublist.slnil | apply List.Sublist.cons_cons | exact List.Sublist.refl _ | apply List.Sublist.cons))))
  · obtain rfl : i = ps.length := by omega
    have hoff : off ps ps.length = X.length := by rw [off_all, hXe]
    rw [hoff] at hH ⊢
    by_cases hm0 : X.length % 16 = 0
    · have hS := hSV (X.length / 16) (by omega)
      have hnb : nbl X.length = X.length / 16 := by unfold nbl; omega
      rw [hnb]
      repeat (first | refine c_seq ?_ | (refine c_region (id := 5) ?_; refine sq qlss ?_; refine l_nil ?_) | (refine c_region (id := 18) ?_; refine sq qm ?_; refine sq (by first | exact dgtrt | exact dgtrf) ?_; refine l_nil ?_) | (refine c_region (id := 20) ?_; refine sq (by first | exact qlb | exact qlr) ?_; refine se ?_; refine ecp rfl rfl (fun w hC hm hL => by exact pend_c kb hk _ _ _ (hSl _).1 (hSl _).2.1 _ _ _ w (hL.sub (by (repeat (first | exact List.nil_sublist _ | exact List.Sublist.slnil | apply List.Sublist.cons_cons | exact List.Sublist.refl _ | apply List.Sublist.cons))))) ?_; intro m' hm'; refine se ?_; refine esa ?_; refine l_nil ?_) | refine n_then ?_ | refine c_block ?_ | refine c_skip ?_ | refine n_block ?_ | refine c_exit ?_ | refine n_then_exit ?_ | refine n_block_eq ?_ | refine n_block_ne rfl ?_ | refine c_ret ?_ | refine n_then_ret ?_ | refine n_block_ret ?_ | refine c_cond_t rfl ?_ | refine c_cond_f rfl ?_ | refine r_succ ?_ )
      (first | apply r_ret () | apply r_end ()); exact rfl; exact rfl; exact (.row rfl (by (repeat (first | exact List.Mem.head _ | apply List.Mem.tail))) (by rfl) .nil); exact (congrArg Value.agg (code_end kb hk hS)); exact (List.nil_sublist _); exact new_nil; exact trivial
    · obtain ⟨r, hr⟩ : ∃ r, r = X.length % 16 := ⟨_, rfl⟩
      obtain ⟨jn, hjn⟩ : ∃ jn, jn = X.length / 16 := ⟨_, rfl⟩
      have hnb : nbl X.length = jn + 1 := by unfold nbl; omega
      rw [hnb]
      rw [← hr, ← hjn] at hH ⊢
      have hsb := shF_bd (fq X jn) (hX jn) r
      obtain ⟨F, hF⟩ := KR.next 0 (stS rl rh (fun j => wd0 (fq X j)) (fun j => wd1 (fq X j)) jn).1 (stS rl rh (fun j => wd0 (fq X j)) (fun j => wd1 (fq X j)) jn).2.1 (stS rl rh (fun j => wd0 (fq X j)) (fun j => wd1 (fq X j)) jn).2.2 rl rh (wd0 (shF (fq X jn) r)) (wd1 (shF (fq X jn) r))
      have hFl := hF.lt
      have hS : StV F (accV (vl (rcl kb)) (X.map Int.toNat) (jn + 1)) := (hSV jn (by omega)).next (bh := 0) (by omega) hF hFl (wd0_eq hsb).2 (wd1_eq hsb).2 (blk_tail X jn r (by omega) (by omega)) hrl0 hrh0 hR
      have hH2 : (H.toList.drop 0).take r = (List.range r).map fun i => Value.int .u8 (fq X jn i) := by rw [List.drop_zero]; exact hH.pre
      repeat (first | refine c_seq ?_ | (refine c_region (id := 5) ?_; refine sq qlss ?_; refine l_nil ?_) | (refine c_region (id := 18) ?_; refine sq qm ?_; refine sq (by first | exact dgtrt | exact dgtrf) ?_; refine l_nil ?_) | refine n_then ?_ | refine c_block ?_ | refine c_skip ?_ | refine n_block ?_ | refine c_exit ?_ | refine n_then_exit ?_ | refine n_block_eq ?_ | refine n_block_ne rfl ?_ | refine c_ret ?_ | refine n_then_ret ?_ | refine n_block_ret ?_ | refine c_cond_t rfl ?_ | refine c_cond_f rfl ?_ | refine r_succ ?_ )
      repeat (first | refine c_seq ?_ | (refine c_region (id := 19) ?_; refine sq qm ?_; refine sq (by exact q_slice_arr (o' := 0) (len' := r) (cap' := 16) rfl rfl rfl (by omega) (by omega) (by omega) (by simp) (by simp) (by simp)) ?_; refine se ?_; refine e_call_upd rfl rfl (by kernel_rfl) rfl (fun w hC hm hL => by exact take_short _ _ _ _ rl rh _ _ _ _ _ (m' + 1) 0 r 16 (by omega) (by omega) (fq X jn) (hX _) (wd0_eq hsb).1 (wd1_eq hsb).1 (wd0_eq hsb).2 (wd1_eq hsb).2 hF (hSl _).1 (hSl _).2.1 (hSl _).2.2 hrl hrh (by omega) w (hL.old (k := r) (by (repeat (first | exact List.Mem.head _ | apply List.Mem.tail))) hH2) (hL.sub (by (repeat (first | exact List.nil_sublist _ | exact List.Sublist.slnil | apply List.Sublist.cons_cons | exact List.Sublist.refl _ | apply List.Sublist.cons))))) (by (repeat (first | exact Pl.here | apply Pl.there))) (by first | (left; simp; done) | (right; omega)) ?_; intro m9 hm9; refine l_nil ?_) | refine n_then ?_ | refine c_block ?_ | refine c_skip ?_ | refine n_block ?_ | refine c_exit ?_ | refine n_then_exit ?_ | refine n_block_eq ?_ | refine n_block_ne rfl ?_ | refine c_ret ?_ | refine n_then_ret ?_ | refine n_block_ret ?_ | refine c_cond_t rfl ?_ | refine c_cond_f rfl ?_ | refine r_succ ?_ )
      repeat (first | refine c_seq ?_ | (refine c_region (id := 20) ?_; refine sq (by first | exact qlb | exact qlr) ?_; refine se ?_; refine ecp rfl rfl (fun w hC hm hL => by exact pend_c kb hk _ _ _ hFl.1 hFl.2.1 _ _ _ w (hL.sub (by (repeat (first | exact List.nil_sublist _ | exact List.Sublist.slnil | apply List.Sublist.cons_cons | exact List.Sublist.refl _ | apply List.Sublist.cons))))) ?_; intro m' hm'; refine se ?_; refine esa ?_; refine l_nil ?_) | refine n_then ?_ | refine c_block ?_ | refine c_skip ?_ | refine n_block ?_ | refine c_exit ?_ | refine n_then_exit ?_ | refine n_block_eq ?_ | refine n_block_ne rfl ?_ | refine c_ret ?_ | refine n_then_ret ?_ | refine n_block_ret ?_ | refine c_cond_t rfl ?_ | refine c_cond_f rfl ?_ | refine r_succ ?_ )
      (first | apply r_ret () | apply r_end ()); exact rfl; exact rfl; exact (.row rfl (by (repeat (first | exact List.Mem.head _ | apply List.Mem.tail))) (by rfl) .nil); exact (congrArg Value.agg (code_end kb hk hS)); exact (List.nil_sublist _); exact new_nil; exact trivial
end Go.Proofs.Yteopejjlhmghbaa
namespace Go.Proofs.Yteopejjlhmghbaa
open Go Go.RowKit
set_option linter.unusedVariables false
section
variable {P : Program} {n m d : Nat} {T : List (Nat × Value)} {X : List Nat} {w0 : World} {L L' : List Chunk} {K : Act → World → Prop} {Q : Exit → Act → World → Prop} {x y : Operand} {ty t e src : TypeId} {pos : String} {af : Array Edge} {gu : Option (Nat × Bool)}
theorem q_s2ap {k : Nat} {b : Option Addr} {len cap : Nat} {dst : Option Tmp} (hx : ev T x = some (.slice b len cap)) [hu : UT P t (.array k e)] (hk : k ≤ len) : Qt P X w0 ⟨dst, .sliceToArrayPointer t x, ty, pos, af, gu⟩ T L (.pointer b) := by
  refine ⟨?_⟩
  intro n a w hA hC hL
  simp [execOp, hA.eval hx, run_arrayAt (P := P) w t e k b len cap hu.h hk]
end
end Go.Proofs.Yteopejjlhmghbaa
namespace Go.Proofs.Yteopejjlhmghbaa
open Go Go.RowKit
set_option linter.unusedVariables false
inductive Sp : List Chunk → List Chunk → List Chunk → Prop
  | nil {L : List Chunk} : Sp [] L L
  | cons {c : Chunk} {A L L1 L' : List Chunk} (h : Rm c L L1) (hs : Sp A L1 L') : Sp (c :: A) L L'
theorem Rm.perm {c : Chunk} {L L' : List Chunk} (h : Rm c L L') : L.Perm (c :: L') := by
  obtain ⟨A, B, rfl, rfl⟩ := h.split
  exact List.perm_middle
theorem Sp.perm {A L L' : List Chunk} (h : Sp A L L') : L.Perm (A ++ L') := by
  induction h with
  | nil => exact List.Perm.refl _
  | cons h _ ih => exact h.perm.trans (ih.cons _)
theorem Sp.sub {A L L' : List Chunk} (h : Sp A L L') : L'.Sublist L := by
  induction h with
  | nil => exact List.Sublist.refl _
  | cons h _ ih => exact ih.trans h.sub
theorem Sp.has {A L L' : List Chunk} {w : World} (h : Sp A L L') (hL : Has L w) : Has A w ∧ Has L' w ∧ ∀ g ∈ feet A, g ∉ feet L' := by
  have h2 := hL.perm h.perm
  refine ⟨h2.sub (List.sublist_append_left _ _), h2.sub (List.sublist_append_right _ _), fun g hg hm => ?_⟩
  have := h2.apart
  rw [feet_append] at this
  exact (List.nodup_append.1 this).2.2 g hg g hm rfl
section
variable {P : Program} {n m d : Nat} {T : List (Nat × Value)} {X : List Nat} {w0 : World} {L L' A : List Chunk} {K : Act → World → Prop} {Q : Exit → Act → World → Prop}
  {ty : TypeId} {pos : String} {af : Array Edge} {gu : Option (Nat × Bool)}
end
end Go.Proofs.Yteopejjlhmghbaa
namespace Go.Proofs.Yteopejjlhmghbaa
open Go Go.RowKit
set_option linter.unusedVariables false
set_option linter.unusedSimpArgs false
theorem allOne_u (l : List Int) : allOne (l.map (Value.int .u8)) = true := by
  induction l with
  | nil => rfl
  | cons x l ih => simpa [allOne, Value.oneCell'] using ih
theorem blkL_bd (kb nb : Nat → Int) (c : Int) (i : Nat) : 0 ≤ (blkL kb nb c).getD i 0 ∧ (blkL kb nb c).getD i 0 ≤ 255 := by
  have h := strm_bd kb nb c
  by_cases hi : i < 64
  · have hl : (blkL kb nb c).length = 64 := by simp [blkL, outL]
    have h2 : (blkL kb nb c).getD i 0 ∈ blkL kb nb c := by rw [List.getD_eq_getElem?_getD, List.getElem?_eq_getElem (by omega), Option.getD_some]; exact List.getElem_mem _
    have key : ∀ x ∈ blkL kb nb c, 0 ≤ x ∧ x ≤ 255 := by
      intro x hx
      simp only [blkL, outL, List.mem_map] at hx
      obtain ⟨j, _, rfl⟩ := hx
      unfold outF
      split <;> first | omega | (unfold byt; omega)
    exact key _ h2
  · rw [List.getD_eq_getElem?_getD, List.getElem?_eq_none (by simp [blkL, outL]; omega)]; simp
def keyO (kb nb : Nat → Int) (i : Nat) : Int := (blkL kb nb 0).getD i 0
theorem keyO_bd (kb nb : Nat → Int) (i : Nat) : 0 ≤ keyO kb nb i ∧ keyO kb nb i ≤ 255 := blkL_bd kb nb 0 i
theorem keyO_take (kb nb : Nat → Int) : ((((outN (rnds 10 (s0 kb nb 0)) (s0 kb nb 0) 64).toList.drop 0).take 32).toArray) = keyA (keyO kb nb) := by
  have e : keyA (keyO kb nb) = (((List.range 32).map (keyO kb nb)).map (Value.int .u8)).toArray := rfl
  rw [e, List.drop_zero]
  congr 1
def rep0 (n : Nat) : List Int := List.replicate (nz n) 0
def macT (ad tu : List Int) : List Int := ad ++ (rep0 ad.length ++ (tu ++ (rep0 tu.length ++ (lil ad.length ++ lil tu.length))))
def codI (V : Nat) : List Int := (List.range 16).map fun q => ((V / 256 ^ q % 256 : Nat) : Int)
theorem codeB_I (V : Nat) : codeB V 16 = (codI V).map (Value.int .u8) := by
  unfold codeB codI
  rw [List.map_map]
  apply List.map_congr_left
  intro q hq
  have : q < 16 := List.mem_range.1 hq
  simp [this]
def codV (kb : Nat → Int) (X : List Int) : Nat := accV (vl (rcl kb)) (X.map Int.toNat) (nbl X.length) + vl (((List.range 16).map fun i => kb (16 + i)).map Int.toNat)
def macI (kb nb : Nat → Int) (ad tu : List Int) : List Int := codI (codV (keyO kb nb) (macT ad tu))
theorem macI_len (kb nb : Nat → Int) (ad tu : List Int) : (macI kb nb ad tu).length = 16 := rfl
theorem lil_bd (n : Nat) : ∀ x ∈ lil n, 0 ≤ x ∧ x ≤ 255 := by
  intro x hx
  simp only [lil, List.mem_map] at hx
  obtain ⟨q, _, rfl⟩ := hx
  omega
theorem rep0_bd (n : Nat) : ∀ x ∈ rep0 n, 0 ≤ x ∧ x ≤ 255 := by
  intro x hx
  rw [List.eq_of_mem_replicate hx]; omega
theorem macT_len (ad tu : List Int) : (macT ad tu).length ≤ ad.length + tu.length + 46 := by
  have h1 := nz_lt ad.length
  have h2 := nz_lt tu.length
  simp [macT, rep0, lil]; omega
attribute [irreducible] codV
theorem mac_parts (kb nb : Nat → Int) (a1 : Option Addr) (l1 c1 : Nat) (xs : List Int) (hl1 : xs.length = l1) (hc1 : l1 ≤ c1) (hb1 : ∀ x ∈ xs, 0 ≤ x ∧ x ≤ 255) (hz1 : l1 ≤ 20000) (a2 : Option Addr) (l2 c2 : Nat) (ys : List Int) (hl2 : ys.length = l2) (hc2 : l2 ≤ c2) (hb2 : ∀ x ∈ ys, 0 ≤ x ∧ x ≤ 255) (hz2 : l2 ≤ 20000) (w : World) {L : List Chunk} (hL : Has L w) (g1 g2 g3 m3 : Nat) {T5 : TypeId}
    (h1 : Chunk.sl (some ⟨g1, 0, none⟩) (nz l2) 5 1 ((rep0 l2).map (Value.int .u8)) ∈ L) (h2 : Chunk.sl (some ⟨g2, 0, none⟩) (nz l1) 5 1 ((rep0 l1).map (Value.int .u8)) ∈ L) (h3 : Chunk.blk g3 (.cells ((lil l2 ++ lil l1).map (Value.int .u8)).toArray 5 (0, 0)) ∈ L)
    (h4 : Chunk.blk m3 (.cells #[.slice a2 l2 c2, .slice (some ⟨g1, 0, none⟩) (nz l2) (nz l2), .slice a1 l1 c1, .slice (some ⟨g2, 0, none⟩) (nz l1) (nz l1), .slice (some ⟨g3, 0, none⟩) 16 16] T5 (0, 0)) ∈ L)
    (hs1 : SlE (Value.int .u8) w a1 xs) (hs2 : SlE (Value.int .u8) w a2 ys) : CA Try.prog 49 [.agg (keyA (keyO kb nb)), .slice (some ⟨m3, 0, none⟩) 5 5] w (RV (.agg ((macI kb nb ys xs).map (Value.int .u8)).toArray) w) := by
  have hz8 := nz_lt l1
  have hz9 := nz_lt l2
  have h9 := code_parts (keyO kb nb) (keyO_bd kb nb) [⟨a2, l2, c2, ys⟩, ⟨some ⟨g1, 0, none⟩, nz l2, nz l2, rep0 l2⟩, ⟨a1, l1, c1, xs⟩, ⟨some ⟨g2, 0, none⟩, nz l1, nz l1, rep0 l1⟩, ⟨some ⟨g3, 0, none⟩, 16, 16, lil l2 ++ lil l1⟩] m3 5 (macT ys xs) (by unfold macT joined; rw [hl1, hl2]; simp) (by simp) (by have := macT_len ys xs; omega) w (by
    intro p hp
    simp only [List.mem_cons, List.not_mem_nil, or_false] at hp
    rcases hp with rfl | rfl | rfl | rfl | rfl
    · exact ⟨hs2, hl2, hc2, hb2⟩
    · exact ⟨SlE.own hL h1 (⟨Nat.le_refl _, by omega, .inr ⟨_, rfl⟩, fun _ _ => .inr (Nat.zero_le _)⟩ : OS [] 0 _ (nz l2) (nz l2)), by simp [rep0], Nat.le_refl _, rep0_bd _⟩
    · exact ⟨hs1, hl1, hc1, hb1⟩
    · exact ⟨SlE.own hL h2 (⟨Nat.le_refl _, by omega, .inr ⟨_, rfl⟩, fun _ _ => .inr (Nat.zero_le _)⟩ : OS [] 0 _ (nz l1) (nz l1)), by simp [rep0], Nat.le_refl _, rep0_bd _⟩
    · exact ⟨SlE.blk hL h3 0 16 (by rfl), by simp [lil], Nat.le_refl _, fun x hx => (List.mem_append.1 hx).elim (lil_bd _ x) (lil_bd _ x)⟩) (hL.old (k := 5) h4 (by rfl))
  rw [codeB_I] at h9
  unfold macI codV
  exact h9
set_option maxRecDepth 100000 in
set_option maxHeartbeats 4000000 in
theorem codeOf_c (kb nb : Nat → Int) (hk : ∀ i, 0 ≤ kb i ∧ kb i ≤ 255) (hn : ∀ i, 0 ≤ nb i ∧ nb i ≤ 255) (a1 : Option Addr) (l1 c1 : Nat) (xs : List Int) (hl1 : xs.length = l1) (hc1 : l1 ≤ c1) (hb1 : ∀ x ∈ xs, 0 ≤ x ∧ x ≤ 255) (hz1 : l1 ≤ 20000) (a2 : Option Addr) (l2 c2 : Nat) (ys : List Int) (hl2 : ys.length = l2) (hc2 : l2 ≤ c2) (hb2 : ∀ x ∈ ys, 0 ≤ x ∧ x ≤ 255) (hz2 : l2 ≤ 20000) (w : World) (hs1 : SlE (Value.int .u8) w a1 xs) (hs2 : SlE (Value.int .u8) w a2 ys) :
    CA Try.prog 30 [.agg (keyA kb), .agg (nonA nb), .slice a1 l1 c1, .slice a2 l2 c2] w (RV (.agg ((macI kb nb ys xs).map (Value.int .u8)).toArray) w) := by
  have hz8 := nz_lt l1
  have hz9 := nz_lt l2
  refine enter (L := []) (X := []) Try.func30 rfl Try.ntmps30 rfl rfl (Has.nil _) ?_
  repeat (first | refine c_seq ?_ | (refine c_region (id := 0) ?_; refine se ?_; refine eb ?_; refine se ?_; refine eb ?_; refine se ?_; refine ea ?_; refine l_nil ?_) | (refine c_region (id := 1) ?_; refine sq (by first | exact qlb | exact qlr) ?_; refine sq (by first | exact qlb | exact qlr) ?_; refine se ?_; refine ecp rfl rfl (fun w hC hm hL => block_c kb nb hk hn 0 w) ?_; intro m' hm'; refine se ?_; refine ea ?_; refine se ?_; refine esa ?_; refine l_nil ?_) | refine n_then ?_ | refine c_block ?_ | refine c_skip ?_ | refine n_block ?_ | refine c_exit ?_ | refine n_then_exit ?_ | refine n_block_eq ?_ | refine n_block_ne rfl ?_ | refine c_ret ?_ | refine n_then_ret ?_ | refine n_block_ret ?_ | refine c_cond_t rfl ?_ | refine c_cond_f rfl ?_ | refine r_succ ?_ )
  repeat (first | refine c_seq ?_ | (refine x_region (id := 2) (some 17) [(0, .n), (1, .n), (2, .q), (3, .n), (4, .n), (5, .n), (7, .n), (8, .n), (9, .n), (11, .n), (12, .n), (13, .n), (14, .n), (6, .e), (10, .e), (15, .e), (16, .e), (17, .b), (18, .e)] _ mixed (by kernel_rfl) (List.Sublist.refl _) ?_; refine xn rfl qsa ?_; refine xn rfl (by exact q_s2ap rfl (by omega)) ?_; refine xq rfl (by exact Qt.cast (congrArg Value.agg (keyO_take kb nb)) (q_load_row rfl (RdN.blk (o := 0) (by (repeat (first | exact List.Mem.head _ | apply List.Mem.tail))) (by rw [List.length_take]; rfl)) (by rfl))) ?_; refine xn rfl qm ?_; refine xn rfl qm ?_; refine xn rfl qls ?_; refine xn rfl qm ?_; refine xn rfl qm ?_; refine xn rfl qls ?_; refine xn rfl qm ?_; refine xn rfl qls ?_; refine xn rfl qm ?_; refine xn rfl qls ?_; refine x_e rfl ?_; (first | (refine ecl rfl rfl (fun w hC hm hL => noughts_c l2 (by omega) w) ?_; intro g1 m1 _ hn1 hm1) | (refine ecl rfl rfl (fun w hC hm hL => noughts_c l1 (by omega) w) ?_; intro g2 m2 _ hn2 hm2)); refine xk ?_; refine x_e rfl ?_; (first | (refine ecl rfl rfl (fun w hC hm hL => noughts_c l2 (by omega) w) ?_; intro g1 m1 _ hn1 hm1) | (refine ecl rfl rfl (fun w hC hm hL => noughts_c l1 (by omega) w) ?_; intro g2 m2 _ hn2 hm2)); refine xk ?_; refine x_e rfl ?_; refine ecl rfl rfl (fun w hC hm hL => lengths_c l2 l1 (by omega) (by omega) w) ?_; intro g3 m3 _ hn3 hm3; refine xk ?_; refine x_e rfl ?_; refine ebs ?_; refine xk ?_; refine x_b rfl ?_; refine ecp rfl rfl (fun w hC hm hL => by exact mac_parts kb nb a1 l1 c1 xs hl1 hc1 hb1 hz1 a2 l2 c2 ys hl2 hc2 hb2 hz2 w hL g1 g2 g3 m3 (by (repeat (first | exact List.Mem.head _ | apply List.Mem.tail))) (by (repeat (first | exact List.Mem.head _ | apply List.Mem.tail))) (by (repeat (first | exact List.Mem.head _ | apply List.Mem.tail))) (by (repeat (first | exact List.Mem.head _ | apply List.Mem.tail))) (hs1.ch0 hC) (hs2.ch0 hC)) ?_; intro m' hm'; refine x_k (List.nil_sublist _) ?_; refine x_e rfl ?_; refine esa ?_; refine xk ?_; refine x_nil ?_) | refine n_then ?_ | refine c_block ?_ | refine c_skip ?_ | refine n_block ?_ | refine c_exit ?_ | refine n_then_exit ?_ | refine n_block_eq ?_ | refine n_block_ne rfl ?_ | refine c_ret ?_ | refine n_then_ret ?_ | refine n_block_ret ?_ | refine c_cond_t rfl ?_ | refine c_cond_f rfl ?_ | refine r_succ ?_ )
  (first | apply r_ret () | apply r_end ()); exact rfl; exact rfl; exact (.row rfl (by (repeat (first | exact List.Mem.head _ | apply List.Mem.tail))) (by rfl) .nil); exact rfl; exact (List.nil_sublist _); exact new_nil; exact trivial
end Go.Proofs.Yteopejjlhmghbaa
namespace Go.Proofs.Yteopejjlhmghbaa
open Go Go.RowKit
set_option linter.unusedVariables false
set_option linter.unusedSimpArgs false
def tur (kb nb : Nat → Int) (xs : List Int) : List Int := outI xs kb nb 1 xs.length
theorem tur_len (kb nb : Nat → Int) (xs : List Int) : (tur kb nb xs).length = xs.length := outI_len _ _ _ _ _
theorem tur_bd (kb nb : Nat → Int) (xs : List Int) (hx : ∀ x ∈ xs, 0 ≤ x ∧ x ≤ 255) : ∀ x ∈ tur kb nb xs, 0 ≤ x ∧ x ≤ 255 := by
  intro x h
  simp only [tur, outI, List.mem_map] at h
  obtain ⟨i, _, rfl⟩ := h
  split
  · unfold bits; simp only [IntKind.wrap_u8']; omega
  · omega
def sealL (kb nb : Nat → Int) (xs ys : List Int) : List Int := tur kb nb xs ++ macI kb nb ys (tur kb nb xs)
theorem sealL_len (kb nb : Nat → Int) (xs ys : List Int) : (sealL kb nb xs ys).length = xs.length + 16 := by
  unfold sealL; rw [List.length_append, tur_len]; rfl
theorem xorI_c (kb nb : Nat → Int) (hk : ∀ i, 0 ≤ kb i ∧ kb i ≤ 255) (hn : ∀ i, 0 ≤ nb i ∧ nb i ≤ 255) (a : Option Addr) (len cap : Nat) (zs : List Int) (hlen : len ≤ 1000000) (hcap : len ≤ cap) (hzl : zs.length = len) (w : World) (hs : SlE (Value.int .u8) w a zs) :
    CA Try.prog 29 [.agg (keyA kb), .agg (nonA nb), .int .u32 1, .slice a len cap] w (Ret (fun g : Nat => .slice (some ⟨g, 0, none⟩) len len) [] (fun g => [.sl (some ⟨g, 0, none⟩) len 5 1 ((tur kb nb zs).map (Value.int .u8))]) (fun _ => True) w) := by
  have h := xor_c kb nb hk hn 1 (by unfold W32; omega) a len cap zs hlen hcap w (hs.slB' hzl)
  simp only [outX_eq] at h
  unfold tur
  rw [hzl]
  exact h
set_option maxRecDepth 100000 in
set_option maxHeartbeats 4000000 in
theorem seal_c (kb nb : Nat → Int) (hk : ∀ i, 0 ≤ kb i ∧ kb i ≤ 255) (hn : ∀ i, 0 ≤ nb i ∧ nb i ≤ 255) (a1 : Option Addr) (l1 c1 : Nat) (xs : List Int) (hl1 : xs.length = l1) (hc1 : l1 ≤ c1) (hb1 : ∀ x ∈ xs, 0 ≤ x ∧ x ≤ 255) (hz1 : l1 ≤ 20000) (a2 : Option Addr) (l2 c2 : Nat) (ys : List Int) (hl2 : ys.length = l2) (hc2 : l2 ≤ c2) (hb2 : ∀ x ∈ ys, 0 ≤ x ∧ x ≤ 255) (hz2 : l2 ≤ 20000) (w : World) (hs1 : SlE (Value.int .u8) w a1 xs) (hs2 : SlE (Value.int .u8) w a2 ys) :
    CA Try.prog 13 [.agg (keyA kb), .agg (nonA nb), .slice a1 l1 c1, .slice a2 l2 c2] w (RLe (Value.int .u8) 5 (fun l => l = sealL kb nb xs ys) w) := by
  have htl := tur_len kb nb xs
  have hml := macI_len kb nb ys (tur kb nb xs)
  refine enter (L := []) (X := []) Try.func13 rfl Try.ntmps13 rfl rfl (Has.nil _) ?_
  repeat (first | refine c_seq ?_ | (refine c_region (id := 0) ?_; refine se ?_; refine eb ?_; refine se ?_; refine eb ?_; refine sq qa ?_; refine l_nil ?_) | (refine c_region (id := 1) ?_; refine sq (by first | exact qlb | exact qlr) ?_; refine sq (by first | exact qlb | exact qlr) ?_; refine sq qm ?_; refine se ?_; refine ecl rfl rfl (fun w hC hm hL => by exact xorI_c kb nb hk hn a1 l1 c1 xs (by omega) hc1 hl1 w (hs1.ch0 hC)) ?_; intro g1 m1 _ hn1 hm1; refine sq qa ?_; refine l_nil ?_) | refine n_then ?_ | refine c_block ?_ | refine c_skip ?_ | refine n_block ?_ | refine c_exit ?_ | refine n_then_exit ?_ | refine n_block_eq ?_ | refine n_block_ne rfl ?_ | refine c_ret ?_ | refine n_then_ret ?_ | refine n_block_ret ?_ | refine c_cond_t rfl ?_ | refine c_cond_f rfl ?_ | refine r_succ ?_ )
  repeat (first | refine c_seq ?_ | (refine c_region (id := 2) ?_; refine sq (by first | exact qlb | exact qlr) ?_; refine sq (by first | exact qlb | exact qlr) ?_; refine sq qm ?_; refine sq qm ?_; refine se ?_; refine ecp rfl rfl (fun w hC hm hL => by exact codeOf_c kb nb hk hn _ l1 l1 (tur kb nb xs) (by omega) (Nat.le_refl _) (tur_bd kb nb xs hb1) (by omega) a2 l2 c2 ys hl2 hc2 hb2 hz2 w (SlE.own hL (by (repeat (first | exact List.Mem.head _ | apply List.Mem.tail))) (⟨Nat.le_refl _, by omega, .inr ⟨_, rfl⟩, fun _ _ => .inr (Nat.zero_le _)⟩ : OS [] 0 _ l1 l1)) (hs2.ch0 hC)) ?_; intro m' hm'; refine se ?_; refine ea ?_; refine se ?_; refine esa ?_; refine l_nil ?_) | refine n_then ?_ | refine c_block ?_ | refine c_skip ?_ | refine n_block ?_ | refine c_exit ?_ | refine n_then_exit ?_ | refine n_block_eq ?_ | refine n_block_ne rfl ?_ | refine c_ret ?_ | refine n_then_ret ?_ | refine n_block_ret ?_ | refine c_cond_t rfl ?_ | refine c_cond_f rfl ?_ | refine r_succ ?_ )
  have ho1 : OS [] w.heap.size (some ⟨g1, 0, none⟩) l1 l1 := ⟨Nat.le_refl _, by omega, .inr ⟨_, rfl⟩, fun g hg => by have := hn1 g (by simpa [feet, Chunk.foot] using hg); exact .inr (by omega)⟩
  repeat (first | refine c_seq ?_ | (refine c_region (id := 3) ?_; refine sq qm ?_; refine sq qsa ?_; refine se ?_; refine e_appE (Value.int .u8) (tur kb nb xs) (macI kb nb ys (tur kb nb xs)) rfl rfl rfl (by (repeat (first | exact Rm.here | apply Rm.there))) (.inr ⟨_, rfl, RdN.blk (o := 0) (by (repeat (first | exact List.Mem.head _ | apply List.Mem.tail))) (by rw [List.drop_zero]; exact List.take_length)⟩) (by omega) hml ho1 (allOne_u _) (by omega) (by omega) ?_; intro b2 cap2 m2 ho2 hm2; refine sq qa ?_; refine l_nil ?_) | refine n_then ?_ | refine c_block ?_ | refine c_skip ?_ | refine n_block ?_ | refine c_exit ?_ | refine n_then_exit ?_ | refine n_block_eq ?_ | refine n_block_ne rfl ?_ | refine c_ret ?_ | refine n_then_ret ?_ | refine n_block_ret ?_ | refine c_cond_t rfl ?_ | refine c_cond_f rfl ?_ | refine r_succ ?_ )
  have e1 : l1 + 16 = (sealL kb nb xs ys).length := by rw [sealL_len, hl1]
  rw [e1] at ho2 ⊢
  (first | apply r_ret (b2, cap2, sealL kb nb xs ys) | apply r_end (b2, cap2, sealL kb nb xs ys)); exact rfl; exact rfl; exact (.tmp rfl .nil); exact rfl; exact (by exact (by (repeat (first | exact List.nil_sublist _ | exact List.Sublist.slnil | apply List.Sublist.cons_cons | exact List.Sublist.refl _ | apply List.Sublist.cons)))); exact (new_sl ho2.newc new_nil); exact ⟨by have h9 := ho2.ret; exact h9, rfl⟩
end Go.Proofs.Yteopejjlhmghbaa
namespace Go.Proofs.Yteopejjlhmghbaa
open Go Go.RowKit
set_option linter.unusedVariables false
structure SlF {α : Type} (enc : α → List Value) (w : World) (b : Option Addr) (xs : List α) : Prop where
  h : xs = [] ∨ ∃ g o, b = some ⟨g, o, none⟩ ∧ Old w g o (xs.flatMap enc)
theorem SlF.ch0 {α : Type} {enc : α → List Value} {w w' : World} {b : Option Addr} {xs : List α} (h : SlF enc w b xs) (hC : Ch [] w w') : SlF enc w' b xs :=
  ⟨h.h.imp id fun ⟨g, o, e, hO⟩ => ⟨g, o, e, hO.ch hC (by simp)⟩⟩
theorem SlF.get {α : Type} {enc : α → List Value} {w : World} {b : Option Addr} {xs : List α} (h : SlF enc w b xs) {i : Nat} (hi : i < xs.length) : ∃ g o, b = some ⟨g, o, none⟩ ∧ Old w g o (xs.flatMap enc) := by
  rcases h.h with h | h
  · subst h; simp at hi
  · exact h
theorem flatMap_one {α : Type} (f : α → Value) (xs : List α) : xs.flatMap (fun x => [f x]) = xs.map f := by
  induction xs with
  | nil => rfl
  | cons x xs ih => simp [List.flatMap_cons, ih]
theorem SlF.slE {α : Type} {f : α → Value} {w : World} {b : Option Addr} {xs : List α} (h : SlF (fun x => [f x]) w b xs) : SlE f w b xs :=
  ⟨h.h.imp id fun ⟨g, o, e, hO⟩ => ⟨g, o, e, by rw [flatMap_one] at hO; exact hO⟩⟩
theorem Old.at {w : World} {g o : Nat} {vs us : List Value} (h : Old w g o vs) (k n : Nat) (e : (vs.drop k).take n = us) : Old w g (o + k) us := ⟨fun j v hj => by
  rw [← e, nth_eq, List.getElem?_take] at hj
  split at hj
  · rw [List.getElem?_drop] at hj
    have := h.cell (k + j) v (by rw [nth_eq]; exact hj)
    rwa [← Nat.add_assoc] at this
  · cases hj⟩
theorem exists_list {α : Type} (p : Nat → α → Prop) : ∀ (n : Nat), (∀ i, i < n → ∃ x, p i x) → ∃ xs : List α, xs.length = n ∧ ∀ i x, xs[i]? = some x → p i x
  | 0, _ => ⟨[], rfl, by simp⟩
  | n + 1, h => by
    obtain ⟨xs, h1, h2⟩ := exists_list p n (fun i hi => h i (by omega))
    obtain ⟨x, hx⟩ := h n (by omega)
    refine ⟨xs ++ [x], by simp [h1], fun i y hy => ?_⟩
    by_cases hi : i < n
    · rw [List.getElem?_append_left (by omega)] at hy; exact h2 i y hy
    · rw [List.getElem?_append_right (by omega)] at hy
      have hi2 : i - xs.length = 0 := by
        rcases Nat.eq_zero_or_pos (i - xs.length) with h | h
        · exact h
        · rw [List.getElem?_eq_none (by simp; omega)] at hy; cases hy
      rw [hi2] at hy
      simp at hy
      obtain rfl : i = n := by omega
      exact hy ▸ hx
theorem mapM_gets {α β : Type} {f : α → Option β} : ∀ {l : List α} {r : List β}, l.mapM f = some r → r.length = l.length ∧ ∀ (i : Nat) (y : β), r[i]? = some y → ∃ x : α, l[i]? = some x ∧ f x = some y
  | [], r, h => by
    simp at h; subst h; simp
  | b :: l, r, h => by
    rw [List.mapM_cons] at h
    simp only [Option.bind_eq_bind, Option.bind_eq_some_iff] at h
    obtain ⟨y, hy, ys, hys, h9⟩ := h
    simp at h9
    subst h9
    obtain ⟨h1, h2⟩ := mapM_gets hys
    refine ⟨by simp [h1], fun i z hz => ?_⟩
    cases i with
    | zero => simp at hz; subst hz; exact ⟨b, rfl, hy⟩
    | succ i => simp at hz; obtain ⟨x, hx1, hx2⟩ := h2 i z hz; exact ⟨x, by simpa using hx1, hx2⟩
theorem addr_add_add (ad : Addr) (a b : Nat) : (ad.add a).add b = ad.add (a + b) := by
  rcases Nat.eq_zero_or_pos a with rfl | h1 <;> rcases Nat.eq_zero_or_pos b with rfl | h2
  · simp [Addr.add]
  · simp [Addr.add]
  · simp [Addr.add]
  · have e1 : a ≠ 0 := by omega
    have e2 : b ≠ 0 := by omega
    have e3 : a + b ≠ 0 := by omega
    simp [Addr.add, e1, e2, Nat.add_assoc]
theorem Reads.rows {P : Program} {w : World} {t e : TypeId} {sz : Nat} (ht : P.underlying t = some (.slice e)) (hce : P.cellsOf e = sz) (hsz0 : 0 < sz) {α : Type} (enc : α → List Value) (good : α → Prop) (hel : ∀ c, Reads P w e c → ∃ x, c = enc x ∧ good x)
    {a : Option Addr} {len cap : Nat} (h : Reads P w t [.slice a len cap]) : ∃ xs : List α, xs.length = len ∧ len ≤ cap ∧ cap ≤ maxLen ∧ SlF enc w a xs ∧ ∀ x ∈ xs, good x := by
  rcases h.slice ht with h | ⟨ad, l, c, hcs, hl, hm, hcell⟩
  · simp at h
    obtain ⟨rfl, rfl, rfl⟩ := h
    exact ⟨[], rfl, Nat.le_refl _, Nat.zero_le _, ⟨.inl rfl⟩, by simp⟩
  · simp at hcs
    obtain ⟨rfl, rfl, rfl⟩ := hcs
    rw [hce] at hcell
    obtain ⟨xs, h1, h2⟩ := exists_list (fun i (x : α) => w.cells? 0 (ad.add (i * sz)) sz = some (enc x) ∧ good x) len (fun i hi => by
      obtain ⟨c, hc, hr⟩ := hcell i (by omega)
      obtain ⟨x, rfl, hg⟩ := hel c hr
      exact ⟨x, hc, hg⟩)
    refine ⟨xs, h1, hl, hm, ⟨?_⟩, fun x hx => ?_⟩
    · by_cases h0 : xs = []
      · exact .inl h0
      · refine .inr ?_
        have key : ∀ i x, xs[i]? = some x → (enc x).length = sz ∧ ∀ j v, (enc x)[j]? = some v → w.cell? (ad.add (i * sz + j)) = some v := by
          intro i x hx
          have := (h2 i x hx).1
          unfold World.cells? at this
          rw [if_pos (Nat.zero_le _)] at this
          obtain ⟨k1, k2⟩ := mapM_gets this
          refine ⟨by simpa using k1, fun j v hj => ?_⟩
          obtain ⟨q, hq1, hq2⟩ := k2 j v hj
          have hj2 : j < sz := by
            have := (List.getElem?_eq_some_iff.1 hj).1
            simp at k1; omega
          rw [List.getElem?_range hj2] at hq1
          simp at hq1
          subst hq1
          rwa [addr_add_add] at hq2
        obtain ⟨x0, hx0⟩ : ∃ x0, xs[0]? = some x0 := by
          cases xs with
          | nil => exact absurd rfl h0
          | cons x _ => exact ⟨x, rfl⟩
        have k0 := key 0 x0 hx0
        obtain ⟨v0, hv0⟩ : ∃ v, (enc x0)[0]? = some v := ⟨_, List.getElem?_eq_getElem (by omega)⟩
        have hc0 := k0.2 0 v0 hv0
        obtain ⟨b, off, spot⟩ := ad
        have hspot : spot = none := by simpa [Addr.add] using World.cell?_spot hc0
        subst hspot
        refine ⟨b, off, rfl, ⟨fun j v hj => ?_⟩⟩
        have hlen : ∀ (ys : List α), (∀ y ∈ ys, (enc y).length = sz) → (ys.flatMap enc).length = ys.length * sz := by
          intro ys hys
          induction ys with
          | nil => simp
          | cons y ys ih => rw [List.flatMap_cons, List.length_append, hys y (by simp), ih (fun z hz => hys z (by simp [hz])), List.length_cons, Nat.succ_mul, Nat.add_comm]
        have hall : ∀ y ∈ xs, (enc y).length = sz := fun y hy => by
          obtain ⟨i, hi, rfl⟩ := List.getElem_of_mem hy
          exact (key i _ (List.getElem?_eq_getElem hi)).1
        have hgen : ∀ (ys : List α), (∀ y ∈ ys, (enc y).length = sz) → ∀ j v, (ys.flatMap enc)[j]? = some v → ∃ x, ys[j / sz]? = some x ∧ (enc x)[j % sz]? = some v := by
          intro ys
          induction ys with
          | nil => intro _ j v h; simp at h
          | cons y ys ih =>
            intro hys j v h
            rw [List.flatMap_cons] at h
            by_cases hj : j < sz
            · rw [List.getElem?_append_left (by rw [hys y (by simp)]; exact hj)] at h
              exact ⟨y, by rw [Nat.div_eq_of_lt hj]; rfl, by rw [Nat.mod_eq_of_lt hj]; exact h⟩
            · rw [List.getElem?_append_right (by rw [hys y (by simp)]; omega), hys y (by simp)] at h
              obtain ⟨x, hx1, hx2⟩ := ih (fun z hz => hys z (by simp [hz])) _ _ h
              have hjs : j = (j - sz) + sz := by omega
              refine ⟨x, ?_, ?_⟩
              · rw [hjs, Nat.add_div_right _ hsz0]; simpa using hx1
              · rw [hjs, Nat.add_mod_right]; exact hx2
        rw [nth_eq] at hj
        obtain ⟨x, hx1, hx2⟩ := hgen xs hall j v hj
        have := (key _ x hx1).2 _ v hx2
        rw [Nat.mul_comm, Nat.div_add_mod] at this
        have hadd : (⟨b, off, none⟩ : Addr).add j = ⟨b, off + j, none⟩ := by simp [Addr.add]
        rwa [hadd] at this
    · obtain ⟨i, hi, rfl⟩ := List.getElem_of_mem hx
      exact (h2 i _ (List.getElem?_eq_getElem hi)).2
theorem Reads.bytes {P : Program} {w : World} {t e : TypeId} (ht : P.underlying t = some (.slice e)) (he : P.underlying e = some (.int .u8)) (hce : P.cellsOf e = 1) {cs : List Value} (h : Reads P w t cs) :
    ∃ a len cap xs, cs = [.slice a len cap] ∧ xs.length = len ∧ len ≤ cap ∧ cap ≤ maxLen ∧ SlE (Value.int .u8) w a xs ∧ ∀ x ∈ xs, 0 ≤ x ∧ x ≤ 255 := by
  have key : ∀ a len cap, cs = [.slice a len cap] → ∃ a len cap xs, cs = [.slice a len cap] ∧ xs.length = len ∧ len ≤ cap ∧ cap ≤ maxLen ∧ SlE (Value.int .u8) w a xs ∧ ∀ x ∈ xs, 0 ≤ x ∧ x ≤ 255 := by
    rintro a len cap rfl
    obtain ⟨xs, h1, h2, h3, h4, h5⟩ := h.rows ht hce (by omega) (fun x : Int => [Value.int .u8 x]) (fun x => 0 ≤ x ∧ x ≤ 255) (fun c hc => by
      obtain ⟨n, rfl, hw⟩ := hc.int he
      exact ⟨n, rfl, bounds_u8 hw⟩)
    exact ⟨a, len, cap, xs, rfl, h1, h2, h3, h4.slE, h5⟩
  rcases h.slice ht with h9 | ⟨ad, l, c, hcs, _⟩
  · exact key _ _ _ h9
  · exact key _ _ _ hcs
end Go.Proofs.Yteopejjlhmghbaa
namespace Go.Proofs.Yteopejjlhmghbaa
open Go Go.RowKit Go.ChangeShapes Go.WideShapes
set_option linter.unusedVariables false
theorem pair_of {P : Program} {w : World} {T E : TypeId} {k : IntKind} (hU : P.underlying T = some (.array 2 E)) (hE : P.underlying E = some (.int k)) (hc : P.cellsOf E = 1) (hcT : P.cellsOf T = 2) {v : Value} {r : Reach} {base : Nat} (hok : Value.okWide P w r base T v) (h : Reads P w T v.cells.toList) :
    ∃ x y : Int, (Lit.int k x).wf = true ∧ (Lit.int k y).wf = true ∧ v = .agg #[.int k x, .int k y] := by
  obtain ⟨cs, rfl⟩ := okWide_row (.inl ⟨_, _, hU⟩) hok
  obtain ⟨xs, h1, h2, h3⟩ := h.ints hU hE hc hcT
  match xs, h1 with
  | [x, y], _ =>
    have e : cs.toList = [Value.int k x, Value.int k y] := by simpa [Value.cells] using h2
    refine ⟨x, y, h3 x (by simp), h3 y (by simp), ?_⟩
    congr 1
    apply Array.ext'
    simpa using e
end Go.Proofs.Yteopejjlhmghbaa
namespace Go.Proofs.Yteopejjlhmghbaa
open Go Go.RowKit
set_option linter.unusedVariables false
set_option linter.unusedSimpArgs false
set_option maxRecDepth 100000 in
set_option maxHeartbeats 4000000 in
theorem awake_c (w : World) : CA Try.prog 11 [] w (RV (.bool true) w) := by
  refine enter (L := []) (X := []) Try.func11 rfl Try.ntmps11 rfl rfl (Has.nil _) ?_
  repeat (first | refine c_seq ?_ | (refine c_region (id := 0) ?_; refine sq qa ?_; refine l_nil ?_) | (refine c_region (id := 1) ?_; refine sq qba ?_; refine sq qba ?_; refine se ?_; refine ebs ?_; refine se ?_; refine e_conv_const rfl rfl (by (repeat (first | exact Pl.here | apply Pl.there))) (by first | (left; simp; done) | (right; omega)) ?_; refine se ?_; refine e_callL (enc := (Value.int .u8)) (e := 5) rfl rfl (by kernel_rfl) rfl (fun w hC hm hL => by exact seal_c (fun _ => 0) (fun _ => 0) (fun _ => by omega) (fun _ => by omega) _ 5 5 [104, 101, 108, 108, 111] rfl (by omega) (by simp) (by omega) none 0 0 [] rfl (by omega) (by simp) (by omega) w (SlE.blk hL (by (repeat (first | exact List.Mem.head _ | apply List.Mem.tail))) 0 5 (by rfl)) SlE.nil) ?_; intro b1 cap1 z1 m1 hz1 ho1 hm1; have hl1 := sealL_len (fun _ => 0) (fun _ => 0) [104, 101, 108, 108, 111] []; subst hz1; simp only [List.length_cons, List.length_nil] at hl1; refine sq qls ?_; refine sq (by first | exact deqlt | exact deqlf) ?_; refine sq qa ?_; refine l_nil ?_) | refine n_then ?_ | refine c_block ?_ | refine c_skip ?_ | refine n_block ?_ | refine c_exit ?_ | refine n_then_exit ?_ | refine n_block_eq ?_ | refine n_block_ne rfl ?_ | refine c_ret ?_ | refine n_then_ret ?_ | refine n_block_ret ?_ | refine c_cond_t rfl ?_ | refine c_cond_f rfl ?_ | refine r_succ ?_ )
  (first | apply r_ret () | apply r_end ()); exact rfl; exact rfl; exact (.tmp rfl .nil); exact rfl; exact (List.nil_sublist _); exact new_nil; exact trivial
theorem s_bytes (s : Int) (h : 0 ≤ s ∧ s ≤ 18446744073709551615) : s = 1 * (s / 1 % 256) + 256 * (s / 256 % 256) + 65536 * (s / 65536 % 256) + 16777216 * (s / 16777216 % 256) + 4294967296 * (s / 4294967296 % 256) + 1099511627776 * (s / 1099511627776 % 256) + 281474976710656 * (s / 281474976710656 % 256) + 72057594037927936 * (s / 72057594037927936 % 256) := by omega
theorem a_bytes (s : Int) (h : 0 ≤ s ∧ s ≤ 4294967295) : s = 1 * (s / 1 % 256) + 256 * (s / 256 % 256) + 65536 * (s / 65536 % 256) + 16777216 * (s / 16777216 % 256) := by omega
theorem nonL_inj {a b s t : Int} (ha : 0 ≤ a ∧ a ≤ 4294967295) (hb : 0 ≤ b ∧ b ≤ 4294967295) (hs : 0 ≤ s ∧ s ≤ 18446744073709551615) (ht : 0 ≤ t ∧ t ≤ 18446744073709551615) (h : nonL a s = nonL b t) : a = b ∧ s = t := by
  simp only [nonL, List.cons.injEq] at h
  have h' : a / 16777216 % 256 = b / 16777216 % 256 ∧ a / 65536 % 256 = b / 65536 % 256 ∧ a / 256 % 256 = b / 256 % 256 ∧ a / 1 % 256 = b / 1 % 256 ∧ s / 72057594037927936 % 256 = t / 72057594037927936 % 256 ∧ s / 281474976710656 % 256 = t / 281474976710656 % 256 ∧ s / 1099511627776 % 256 = t / 1099511627776 % 256 ∧ s / 4294967296 % 256 = t / 4294967296 % 256 ∧ s / 16777216 % 256 = t / 16777216 % 256 ∧ s / 65536 % 256 = t / 65536 % 256 ∧ s / 256 % 256 = t / 256 % 256 ∧ s / 1 % 256 = t / 1 % 256 ∧ True := h
  obtain ⟨e0, e1, e2, e3, g0, g1, g2, g3, g4, g5, g6, g7, _⟩ := h'
  refine ⟨?_, ?_⟩
  · rw [a_bytes a ha, a_bytes b hb, e0, e1, e2, e3]
  · rw [s_bytes s hs, s_bytes t ht, g0, g1, g2, g3, g4, g5, g6, g7]
set_option maxRecDepth 100000 in
set_option maxHeartbeats 4000000 in
theorem nonces_law (a b s t : Int) (ha : 0 ≤ a ∧ a ≤ 4294967295) (hb : 0 ≤ b ∧ b ≤ 4294967295) (hs : 0 ≤ s ∧ s ≤ 18446744073709551615) (ht : 0 ≤ t ∧ t ≤ 18446744073709551615) (w : World) :
    CA Try.prog 3 [.agg #[.int .u32 a, .int .u32 b], .agg #[.int .u64 s, .int .u64 t]] w (RV (.bool true) w) := by
  by_cases h1 : a = b ∧ s = t
  · obtain ⟨rfl, rfl⟩ := h1
    refine enter (L := []) (X := []) Try.func3 rfl Try.ntmps3 rfl rfl (Has.nil _) ?_
    repeat (first | refine c_seq ?_ | (refine c_region (id := 0) ?_; refine se ?_; refine eb ?_; refine se ?_; refine eb ?_; refine sq qa ?_; refine l_nil ?_) | (refine x_region (id := 1) none [(0, .n), (1, .q), (2, .n), (3, .q), (4, .n), (5, .q), (6, .n), (7, .q), (8, .n), (9, .n), (10, .n), (11, .n)] _ mixed (by kernel_rfl) (List.Sublist.refl _) ?_; refine xn rfl qia ?_; refine xq rfl ql ?_; refine xn rfl qia ?_; refine xq rfl ql ?_; refine xn rfl qia ?_; refine xq rfl ql ?_; refine xn rfl qia ?_; refine xq rfl ql ?_; refine xn rfl qa ?_; refine xn rfl qa ?_; refine xn rfl qa ?_; refine xn rfl qa ?_; refine x_nil ?_) | (refine c_region (id := 2) ?_; refine sq qm ?_; refine sq qci ?_; refine sq qm ?_; refine se ?_; (first | (refine ecp rfl rfl (fun w hC hm hL => nonce_c a s (by omega) hs w) ?_; intro m' hm') | (refine ecp rfl rfl (fun w hC hm hL => nonce_c a s (by omega) hs w) ?_; intro m' hm')); refine sq qm ?_; refine sq qci ?_; refine sq qm ?_; refine se ?_; (first | (refine ecp rfl rfl (fun w hC hm hL => nonce_c a s (by omega) hs w) ?_; intro m' hm') | (refine ecp rfl rfl (fun w hC hm hL => nonce_c a s (by omega) hs w) ?_; intro m' hm')); refine se ?_; refine ea ?_; refine se ?_; refine ea ?_; refine se ?_; refine esa ?_; refine se ?_; refine esa ?_; refine l_nil ?_) | (refine x_region (id := 3) none [(0, .e), (1, .n), (2, .q), (3, .q), (4, .n), (5, .n), (6, .n), (7, .n), (8, .n), (9, .n), (10, .n), (11, .n), (12, .n), (13, .n), (14, .n), (15, .n), (16, .q), (17, .n), (18, .n), (19, .e), (20, .n), (21, .n), (22, .n)] _ mixed (by kernel_rfl) (List.Sublist.refl _) ?_; refine x_e rfl ?_; refine ecp rfl rfl (fun w hC hm hL => awake_c w) ?_; intro m' hm'; refine xk ?_; refine xn rfl qm ?_; (first | refine x_skip rfl rfl rfl rfl ?_ | refine x_skipv rfl rfl (by rfl) rfl ?_ | refine x_qg rfl rfl rfl (by first | exact qlb | exact qlr) rfl ?_); (first | refine x_skip rfl rfl rfl rfl ?_ | refine x_skipv rfl rfl (by rfl) rfl ?_ | refine x_qg rfl rfl rfl (by first | exact qlb | exact qlr) rfl ?_); (first | refine x_nskip rfl rfl rfl rfl ?_ | refine x_nskipv rfl rfl (by rfl) rfl ?_ | refine x_ng rfl rfl rfl (by exact Qt.cast (v' := .bool true) (congrArg Value.bool (beq_self_eq_true _)) (q_eql_ints (xs := nonL a s) (ys := nonL a s) rfl rfl rfl rfl Try.eqGuardType26 rfl rfl)) rfl ?_); (first | refine x_nskip rfl rfl rfl rfl ?_ | refine x_nskipv rfl rfl (by rfl) rfl ?_ | refine x_ng rfl rfl rfl (by exact qm) rfl ?_); (first | refine x_nskip rfl rfl rfl rfl ?_ | refine x_nskipv rfl rfl (by rfl) rfl ?_ | refine x_ng rfl rfl rfl (by exact qm) rfl ?_); (first | refine x_nskip rfl rfl rfl rfl ?_ | refine x_nskipv rfl rfl (by rfl) rfl ?_ | refine x_ng rfl rfl rfl (by exact Qt.cast (v' := .bool true) (congrArg Value.bool (beq_self_eq_true _)) (q_eql rfl rfl)) rfl ?_); (first | refine x_nskip rfl rfl rfl rfl ?_ | refine x_nskipv rfl rfl (by rfl) rfl ?_ | refine x_ng rfl rfl rfl (by exact qm) rfl ?_); (first | refine x_nskip rfl rfl rfl rfl ?_ | refine x_nskipv rfl rfl (by rfl) rfl ?_ | refine x_ng rfl rfl rfl (by exact qm) rfl ?_); (first | refine x_nskip rfl rfl rfl rfl ?_ | refine x_nskipv rfl rfl (by rfl) rfl ?_ | refine x_ng rfl rfl rfl (by exact qm) rfl ?_); (first | refine x_nskip rfl rfl rfl rfl ?_ | refine x_nskipv rfl rfl (by rfl) rfl ?_ | refine x_ng rfl rfl rfl (by exact Qt.cast (v' := .bool true) (congrArg Value.bool (beq_self_eq_true _)) (q_eql rfl rfl)) rfl ?_); (first | refine x_nskip rfl rfl rfl rfl ?_ | refine x_nskipv rfl rfl (by rfl) rfl ?_ | refine x_ng rfl rfl rfl (by first | exact qpt | exact qpf) rfl ?_); (first | refine x_nskip rfl rfl rfl rfl ?_ | refine x_nskipv rfl rfl (by rfl) rfl ?_ | refine x_ng rfl rfl rfl (by exact qeqlb) rfl ?_); refine xn rfl (by first | exact qpt | exact qpf) ?_; refine xn rfl qm ?_; (first | refine x_skip rfl rfl rfl rfl ?_ | refine x_skipv rfl rfl (by rfl) rfl ?_ | refine x_qg rfl rfl rfl (by first | exact qlb | exact qlr) rfl ?_); (first | refine x_nskip rfl rfl rfl rfl ?_ | refine x_nskipv rfl rfl (by rfl) rfl ?_ | refine x_ng rfl rfl rfl (by exact qm) rfl ?_); (first | refine x_nskip rfl rfl rfl rfl ?_ | refine x_nskipv rfl rfl (by rfl) rfl ?_ | refine x_ng rfl rfl rfl (by exact qm) rfl ?_); (first | refine x_eskip (List.Sublist.refl _) rfl rfl rfl rfl ?_ | refine x_eskipv (List.Sublist.refl _) rfl rfl (by rfl) rfl ?_ | (refine x_eg rfl rfl rfl ?_; refine ecp rfl rfl (fun w hC hm hL => by have h9 := rnonce_c a s hs w; rw [show a % 4294967296 = a by omega] at h9; exact h9) ?_; intro m' hm'; refine xk ?_)); (first | refine x_nskip rfl rfl rfl rfl ?_ | refine x_nskipv rfl rfl (by rfl) rfl ?_ | refine x_ng rfl rfl rfl (by exact Qt.cast (v' := .bool true) (congrArg Value.bool (beq_self_eq_true _)) (q_eql_ints (xs := nonL a s) (ys := nonL a s) rfl rfl rfl rfl Try.eqGuardType26 rfl rfl)) rfl ?_); refine xn rfl (by first | exact qpt | exact qpf) ?_; refine xn rfl qa ?_; refine x_nil ?_) | refine n_then ?_ | refine c_block ?_ | refine c_skip ?_ | refine n_block ?_ | refine c_exit ?_ | refine n_then_exit ?_ | refine n_block_eq ?_ | refine n_block_ne rfl ?_ | refine c_ret ?_ | refine n_then_ret ?_ | refine n_block_ret ?_ | refine c_cond_t rfl ?_ | refine c_cond_f rfl ?_ | refine r_succ ?_ )
    (first | apply r_ret () | apply r_end ()); exact rfl; exact rfl; exact (.tmp rfl .nil); exact rfl; exact (List.nil_sublist _); exact new_nil; exact trivial
  · have e31 : (nonL a s == nonL b t) = false := by
      rw [← Bool.not_eq_true, beq_iff_eq]
      exact fun h => h1 (nonL_inj ha hb hs ht h)
    by_cases h2 : a = b
    · have e38 : (s == t) = false := by
        rw [← Bool.not_eq_true, beq_iff_eq]
        exact fun h => h1 ⟨h2, h⟩
      have e34 : (a == b) = true := by rw [h2]; exact beq_self_eq_true _
      refine enter (L := []) (X := []) Try.func3 rfl Try.ntmps3 rfl rfl (Has.nil _) ?_
      repeat (first | refine c_seq ?_ | (refine c_region (id := 0) ?_; refine se ?_; refine eb ?_; refine se ?_; refine eb ?_; refine sq qa ?_; refine l_nil ?_) | (refine x_region (id := 1) none [(0, .n), (1, .q), (2, .n), (3, .q), (4, .n), (5, .q), (6, .n), (7, .q), (8, .n), (9, .n), (10, .n), (11, .n)] _ mixed (by kernel_rfl) (List.Sublist.refl _) ?_; refine xn rfl qia ?_; refine xq rfl ql ?_; refine xn rfl qia ?_; refine xq rfl ql ?_; refine xn rfl qia ?_; refine xq rfl ql ?_; refine xn rfl qia ?_; refine xq rfl ql ?_; refine xn rfl qa ?_; refine xn rfl qa ?_; refine xn rfl qa ?_; refine xn rfl qa ?_; refine x_nil ?_) | (refine c_region (id := 2) ?_; refine sq qm ?_; refine sq qci ?_; refine sq qm ?_; refine se ?_; (first | (refine ecp rfl rfl (fun w hC hm hL => nonce_c a s (by omega) hs w) ?_; intro m' hm') | (refine ecp rfl rfl (fun w hC hm hL => nonce_c b t (by omega) ht w) ?_; intro m' hm')); refine sq qm ?_; refine sq qci ?_; refine sq qm ?_; refine se ?_; (first | (refine ecp rfl rfl (fun w hC hm hL => nonce_c a s (by omega) hs w) ?_; intro m' hm') | (refine ecp rfl rfl (fun w hC hm hL => nonce_c b t (by omega) ht w) ?_; intro m' hm')); refine se ?_; refine ea ?_; refine se ?_; refine ea ?_; refine se ?_; refine esa ?_; refine se ?_; refine esa ?_; refine l_nil ?_) | (refine x_region (id := 3) none [(0, .e), (1, .n), (2, .q), (3, .q), (4, .n), (5, .n), (6, .n), (7, .n), (8, .n), (9, .n), (10, .n), (11, .n), (12, .n), (13, .n), (14, .n), (15, .n), (16, .q), (17, .n), (18, .n), (19, .e), (20, .n), (21, .n), (22, .n)] _ mixed (by kernel_rfl) (List.Sublist.refl _) ?_; refine x_e rfl ?_; refine ecp rfl rfl (fun w hC hm hL => awake_c w) ?_; intro m' hm'; refine xk ?_; refine xn rfl qm ?_; (first | refine x_skip rfl rfl rfl rfl ?_ | refine x_skipv rfl rfl (by rfl) rfl ?_ | refine x_qg rfl rfl rfl (by first | exact qlb | exact qlr) rfl ?_); (first | refine x_skip rfl rfl rfl rfl ?_ | refine x_skipv rfl rfl (by rfl) rfl ?_ | refine x_qg rfl rfl rfl (by first | exact qlb | exact qlr) rfl ?_); (first | refine x_nskip rfl rfl rfl rfl ?_ | refine x_nskipv rfl rfl (by rfl) rfl ?_ | refine x_ng rfl rfl rfl (by exact Qt.cast (v' := .bool false) (congrArg Value.bool e31) (q_eql_ints (xs := nonL a s) (ys := nonL b t) rfl rfl rfl rfl Try.eqGuardType26 rfl rfl)) rfl ?_); (first | refine x_nskip rfl rfl rfl rfl ?_ | refine x_nskipv rfl rfl (by rfl) rfl ?_ | refine x_ng rfl rfl rfl (by exact qm) rfl ?_); (first | refine x_nskip rfl rfl rfl rfl ?_ | refine x_nskipv rfl rfl (by rfl) rfl ?_ | refine x_ng rfl rfl rfl (by exact qm) rfl ?_); (first | refine x_nskip rfl rfl rfl rfl ?_ | refine x_nskipv rfl rfl (by rfl) rfl ?_ | refine x_ng rfl rfl rfl (by exact Qt.cast (v' := .bool true) (congrArg Value.bool e34) (q_eql rfl rfl)) rfl ?_); (first | refine x_nskip rfl rfl rfl rfl ?_ | refine x_nskipv rfl rfl (by rfl) rfl ?_ | refine x_ng rfl rfl rfl (by exact qm) rfl ?_); (first | refine x_nskip rfl rfl rfl rfl ?_ | refine x_nskipv rfl rfl (by rfl) rfl ?_ | refine x_ng rfl rfl rfl (by exact qm) rfl ?_); (first | refine x_nskip rfl rfl rfl rfl ?_ | refine x_nskipv rfl rfl (by rfl) rfl ?_ | refine x_ng rfl rfl rfl (by exact qm) rfl ?_); (first | refine x_nskip rfl rfl rfl rfl ?_ | refine x_nskipv rfl rfl (by rfl) rfl ?_ | refine x_ng rfl rfl rfl (by exact Qt.cast (v' := .bool false) (congrArg Value.bool e38) (q_eql rfl rfl)) rfl ?_); (first | refine x_nskip rfl rfl rfl rfl ?_ | refine x_nskipv rfl rfl (by rfl) rfl ?_ | refine x_ng rfl rfl rfl (by first | exact qpt | exact qpf) rfl ?_); (first | refine x_nskip rfl rfl rfl rfl ?_ | refine x_nskipv rfl rfl (by rfl) rfl ?_ | refine x_ng rfl rfl rfl (by exact qeqlb) rfl ?_); refine xn rfl (by first | exact qpt | exact qpf) ?_; refine xn rfl qm ?_; (first | refine x_skip rfl rfl rfl rfl ?_ | refine x_skipv rfl rfl (by rfl) rfl ?_ | refine x_qg rfl rfl rfl (by first | exact qlb | exact qlr) rfl ?_); (first | refine x_nskip rfl rfl rfl rfl ?_ | refine x_nskipv rfl rfl (by rfl) rfl ?_ | refine x_ng rfl rfl rfl (by exact qm) rfl ?_); (first | refine x_nskip rfl rfl rfl rfl ?_ | refine x_nskipv rfl rfl (by rfl) rfl ?_ | refine x_ng rfl rfl rfl (by exact qm) rfl ?_); (first | refine x_eskip (List.Sublist.refl _) rfl rfl rfl rfl ?_ | refine x_eskipv (List.Sublist.refl _) rfl rfl (by rfl) rfl ?_ | (refine x_eg rfl rfl rfl ?_; refine ecp rfl rfl (fun w hC hm hL => by have h9 := rnonce_c a s hs w; rw [show a % 4294967296 = a by omega] at h9; exact h9) ?_; intro m' hm'; refine xk ?_)); (first | refine x_nskip rfl rfl rfl rfl ?_ | refine x_nskipv rfl rfl (by rfl) rfl ?_ | refine x_ng rfl rfl rfl (by exact Qt.cast (v' := .bool true) (congrArg Value.bool (beq_self_eq_true _)) (q_eql_ints (xs := nonL a s) (ys := nonL a s) rfl rfl rfl rfl Try.eqGuardType26 rfl rfl)) rfl ?_); refine xn rfl (by first | exact qpt | exact qpf) ?_; refine xn rfl qa ?_; refine x_nil ?_) | refine n_then ?_ | refine c_block ?_ | refine c_skip ?_ | refine n_block ?_ | refine c_exit ?_ | refine n_then_exit ?_ | refine n_block_eq ?_ | refine n_block_ne rfl ?_ | refine c_ret ?_ | refine n_then_ret ?_ | refine n_block_ret ?_ | refine c_cond_t rfl ?_ | refine c_cond_f rfl ?_ | refine r_succ ?_ )
      (first | apply r_ret () | apply r_end ()); exact rfl; exact rfl; exact (.tmp rfl .nil); exact rfl; exact (List.nil_sublist _); exact new_nil; exact trivial
    · have e34 : (a == b) = false := by rw [← Bool.not_eq_true, beq_iff_eq]; exact h2
      refine enter (L := []) (X := []) Try.func3 rfl Try.ntmps3 rfl rfl (Has.nil _) ?_
      repeat (first | refine c_seq ?_ | (refine c_region (id := 0) ?_; refine se ?_; refine eb ?_; refine se ?_; refine eb ?_; refine sq qa ?_; refine l_nil ?_) | (refine x_region (id := 1) none [(0, .n), (1, .q), (2, .n), (3, .q), (4, .n), (5, .q), (6, .n), (7, .q), (8, .n), (9, .n), (10, .n), (11, .n)] _ mixed (by kernel_rfl) (List.Sublist.refl _) ?_; refine xn rfl qia ?_; refine xq rfl ql ?_; refine xn rfl qia ?_; refine xq rfl ql ?_; refine xn rfl qia ?_; refine xq rfl ql ?_; refine xn rfl qia ?_; refine xq rfl ql ?_; refine xn rfl qa ?_; refine xn rfl qa ?_; refine xn rfl qa ?_; refine xn rfl qa ?_; refine x_nil ?_) | (refine c_region (id := 2) ?_; refine sq qm ?_; refine sq qci ?_; refine sq qm ?_; refine se ?_; (first | (refine ecp rfl rfl (fun w hC hm hL => nonce_c a s (by omega) hs w) ?_; intro m' hm') | (refine ecp rfl rfl (fun w hC hm hL => nonce_c b t (by omega) ht w) ?_; intro m' hm')); refine sq qm ?_; refine sq qci ?_; refine sq qm ?_; refine se ?_; (first | (refine ecp rfl rfl (fun w hC hm hL => nonce_c a s (by omega) hs w) ?_; intro m' hm') | (refine ecp rfl rfl (fun w hC hm hL => nonce_c b t (by omega) ht w) ?_; intro m' hm')); refine se ?_; refine ea ?_; refine se ?_; refine ea ?_; refine se ?_; refine esa ?_; refine se ?_; refine esa ?_; refine l_nil ?_) | (refine x_region (id := 3) none [(0, .e), (1, .n), (2, .q), (3, .q), (4, .n), (5, .n), (6, .n), (7, .n), (8, .n), (9, .n), (10, .n), (11, .n), (12, .n), (13, .n), (14, .n), (15, .n), (16, .q), (17, .n), (18, .n), (19, .e), (20, .n), (21, .n), (22, .n)] _ mixed (by kernel_rfl) (List.Sublist.refl _) ?_; refine x_e rfl ?_; refine ecp rfl rfl (fun w hC hm hL => awake_c w) ?_; intro m' hm'; refine xk ?_; refine xn rfl qm ?_; (first | refine x_skip rfl rfl rfl rfl ?_ | refine x_skipv rfl rfl (by rfl) rfl ?_ | refine x_qg rfl rfl rfl (by first | exact qlb | exact qlr) rfl ?_); (first | refine x_skip rfl rfl rfl rfl ?_ | refine x_skipv rfl rfl (by rfl) rfl ?_ | refine x_qg rfl rfl rfl (by first | exact qlb | exact qlr) rfl ?_); (first | refine x_nskip rfl rfl rfl rfl ?_ | refine x_nskipv rfl rfl (by rfl) rfl ?_ | refine x_ng rfl rfl rfl (by exact Qt.cast (v' := .bool false) (congrArg Value.bool e31) (q_eql_ints (xs := nonL a s) (ys := nonL b t) rfl rfl rfl rfl Try.eqGuardType26 rfl rfl)) rfl ?_); (first | refine x_nskip rfl rfl rfl rfl ?_ | refine x_nskipv rfl rfl (by rfl) rfl ?_ | refine x_ng rfl rfl rfl (by exact qm) rfl ?_); (first | refine x_nskip rfl rfl rfl rfl ?_ | refine x_nskipv rfl rfl (by rfl) rfl ?_ | refine x_ng rfl rfl rfl (by exact qm) rfl ?_); (first | refine x_nskip rfl rfl rfl rfl ?_ | refine x_nskipv rfl rfl (by rfl) rfl ?_ | refine x_ng rfl rfl rfl (by exact Qt.cast (v' := .bool false) (congrArg Value.bool e34) (q_eql rfl rfl)) rfl ?_); (first | refine x_nskip rfl rfl rfl rfl ?_ | refine x_nskipv rfl rfl (by rfl) rfl ?_ | refine x_ng rfl rfl rfl (by exact qm) rfl ?_); (first | refine x_nskip rfl rfl rfl rfl ?_ | refine x_nskipv rfl rfl (by rfl) rfl ?_ | refine x_ng rfl rfl rfl (by exact qm) rfl ?_); (first | refine x_nskip rfl rfl rfl rfl ?_ | refine x_nskipv rfl rfl (by rfl) rfl ?_ | refine x_ng rfl rfl rfl (by exact qm) rfl ?_); (first | refine x_nskip rfl rfl rfl rfl ?_ | refine x_nskipv rfl rfl (by rfl) rfl ?_ | refine x_ng rfl rfl rfl (by exact Qt.cast (v' := .bool false) (congrArg Value.bool rfl) (q_eql rfl rfl)) rfl ?_); (first | refine x_nskip rfl rfl rfl rfl ?_ | refine x_nskipv rfl rfl (by rfl) rfl ?_ | refine x_ng rfl rfl rfl (by first | exact qpt | exact qpf) rfl ?_); (first | refine x_nskip rfl rfl rfl rfl ?_ | refine x_nskipv rfl rfl (by rfl) rfl ?_ | refine x_ng rfl rfl rfl (by exact qeqlb) rfl ?_); refine xn rfl (by first | exact qpt | exact qpf) ?_; refine xn rfl qm ?_; (first | refine x_skip rfl rfl rfl rfl ?_ | refine x_skipv rfl rfl (by rfl) rfl ?_ | refine x_qg rfl rfl rfl (by first | exact qlb | exact qlr) rfl ?_); (first | refine x_nskip rfl rfl rfl rfl ?_ | refine x_nskipv rfl rfl (by rfl) rfl ?_ | refine x_ng rfl rfl rfl (by exact qm) rfl ?_); (first | refine x_nskip rfl rfl rfl rfl ?_ | refine x_nskipv rfl rfl (by rfl) rfl ?_ | refine x_ng rfl rfl rfl (by exact qm) rfl ?_); (first | refine x_eskip (List.Sublist.refl _) rfl rfl rfl rfl ?_ | refine x_eskipv (List.Sublist.refl _) rfl rfl (by rfl) rfl ?_ | (refine x_eg rfl rfl rfl ?_; refine ecp rfl rfl (fun w hC hm hL => by have h9 := rnonce_c a s hs w; rw [show a % 4294967296 = a by omega] at h9; exact h9) ?_; intro m' hm'; refine xk ?_)); (first | refine x_nskip rfl rfl rfl rfl ?_ | refine x_nskipv rfl rfl (by rfl) rfl ?_ | refine x_ng rfl rfl rfl (by exact Qt.cast (v' := .bool true) (congrArg Value.bool (beq_self_eq_true _)) (q_eql_ints (xs := nonL a s) (ys := nonL a s) rfl rfl rfl rfl Try.eqGuardType26 rfl rfl)) rfl ?_); refine xn rfl (by first | exact qpt | exact qpf) ?_; refine xn rfl qa ?_; refine x_nil ?_) | refine n_then ?_ | refine c_block ?_ | refine c_skip ?_ | refine n_block ?_ | refine c_exit ?_ | refine n_then_exit ?_ | refine n_block_eq ?_ | refine n_block_ne rfl ?_ | refine c_ret ?_ | refine n_then_ret ?_ | refine n_block_ret ?_ | refine c_cond_t rfl ?_ | refine c_cond_f rfl ?_ | refine r_succ ?_ )
      (first | apply r_ret () | apply r_end ()); exact rfl; exact rfl; exact (.tmp rfl .nil); exact rfl; exact (List.nil_sublist _); exact new_nil; exact trivial
theorem noncesWalk_ {w : World} (a b : Int) (ha : (Lit.int .u32 a).wf = true) (hb : (Lit.int .u32 b).wf = true) (s t : Int) (hs : (Lit.int .u64 s).wf = true) (ht : (Lit.int .u64 t).wf = true) :
    Calls Try.prog 3 #[.agg #[.int .u32 a, .int .u32 b], .agg #[.int .u64 s, .int .u64 t]] w fun e w' => e = .returned (.bool true) ∧ Below w.heap.size w w' :=
  below_ret (nonces_law a b s t (bounds_u32 ha) (bounds_u32 hb) (bounds_u64 hs) (bounds_u64 ht) w)
end Go.Proofs.Yteopejjlhmghbaa
namespace Go.Proofs.Yteopejjlhmghbaa.lawSealNonces
open Go.ChangeShapes Go.WideShapes Go.ChangeAt Go.RowKit
open Go.ChangeMaps (open_string shut_string)
set_option linter.unusedVariables false
theorem own : ownKnob Try.prog.godebug = none := by kernel_rfl
theorem laidOut : laidOutB Try.prog = true := by kernel_rfl
set_option maxRecDepth 100000 in
theorem lifted (os : Os) (started : os.Started) (H : Type) (enc : TypeId × Value → H) :
    ReturnsInHanded {} Try.checked os 3 .any (Rows.sealNoncesSpec.pre6 enc Try.prog Try.f3 Rows.sealNoncesRow.domain false) (Rows.sealNoncesSpec.post enc Try.prog Try.f3 false true false false) := by
  refine returnsInHanded_of_change (C := Try.checked) own started (by kernel_rfl) Try.func3
    (ChangeSpec.witness6 (enc := enc) (C := Try.checked) false ⟨#[], #[.agg #[.int .u32 0, .int .u32 0], .agg #[.int .u64 0, .int .u64 0]], []⟩ 8 (by kernel_rfl) (by kernel_rfl) (by kernel_rfl) (by kernel_rfl)) ?_
  intro W base args ds gs before hval0 hW hcnd _
  have hval : ∀ (j : Nat) t v, Try.f3.params[j]? = some t → args[j]? = some v → Value.okWide Try.prog W .any base t v := hval0
  have hW' := hW
  obtain ⟨p, q, hA0, hV, rfl, hfz, hnd⟩ := hW
  have hA : DataW.TrodAll enc Try.prog W 0 (fun _ => true) true Try.f3.params.toList args.toList ds p := hA0
  rw [Try.params3] at hA hval
  obtain ⟨v0, vs0, d0, ds0, p0, q0, hargs, rfl, rfl, h0, r0⟩ := trodAll_cons hA
  obtain ⟨v1, vs1, d1, ds1, p1, q1, rfl, rfl, rfl, h1, r1⟩ := trodAll_cons r0
  obtain ⟨rfl, rfl, rfl⟩ := trodAll_nil r1
  obtain rfl : args = #[v0, v1] := by cases args; simp_all
  obtain ⟨rfl, rfl⟩ := trodVars_none hV
  have k0 := h0
  have lt0 : ∀ x ∈ p0, x.block < W.heap.size := by obtain ⟨m, hm⟩ := k0; exact DataW.trod_lt m _ _ _ hm
  have k1 := h1
  have lt1 : ∀ x ∈ p1, x.block < W.heap.size := by obtain ⟨m, hm⟩ := k1; exact DataW.trod_lt m _ _ _ hm
  obtain ⟨x0, y0, hx0, hy0, rfl⟩ := pair_of Try.underlying23 Try.underlying22 (by kernel_rfl) (by kernel_rfl) (hval 0 23 v0 rfl rfl) (reads_of_trod k0)
  obtain ⟨x1, y1, hx1, hy1, rfl⟩ := pair_of Try.underlying25 Try.underlying24 (by kernel_rfl) (by kernel_rfl) (hval 1 25 v1 rfl rfl) (reads_of_trod k1)
  clear hA0 hval0
  refine (noncesWalk_ x0 y0 hx0 hy0 x1 y1 hx1 hy1).mono fun e W' ⟨he, bel⟩ => ?_
  subst he
  exact ⟨_, rfl, _, _, _, [], _, [], hW', trodAll_mk1 (shut_bool Try.underlying4 _), (trodAll_cons_mk (Below.trod laidOut (by kernel_rfl) (of_decide_eq_true (by kernel_rfl)) k0 bel lt0) (trodAll_cons_mk (Below.trod laidOut (by kernel_rfl) (of_decide_eq_true (by kernel_rfl)) k1 bel lt1) trodAll_mk0)), rfl, bel.frame _, fun h => by cases h⟩
theorem over : Rows.sealNoncesRow.holds Try.pinned (OpenSpec.ofChange Rows.sealNoncesSpec) :=
  OpenClaim.holds_of_wide 3 Try.f3 rfl rfl rfl rfl rfl rfl rfl ⟨rfl, rfl, rfl, rfl, rfl⟩ rfl rfl rfl rfl rfl (by kernel_rfl) Try.func3 (by kernel_rfl)
    (of_decide_eq_true (by kernel_rfl)) (by unfold Func.isWrapper; first | (rw [if_pos (by decide +kernel)]; kernel_rfl) | (rw [if_neg (by decide +kernel)]; exact ⟨rfl, rfl⟩))
    (fun os started H enc _ => lifted os started H enc)
/-- SealNonces: whatever the input, the law answers true, and its arguments read afterwards as before. No condition. -/
theorem proved : Rows.SealNoncesSaid := over
#print axioms proved
end Go.Proofs.Yteopejjlhmghbaa.lawSealNonces
