/- StoreOpens: what it needs, part 3. -/
import Derived.Test.YtgmghkakiocmjaaDoorSStoreOpensB
namespace Go.Proofs.YtgmghkakiocmjaaDoor
open Go Go.RowKit
set_option linter.unusedVariables false
set_option linter.unusedSimpArgs false
def Dk.sy (D : Dk) : Bool × Dk := if D.pgone then (false, D.dead) else (true, D.lit.still)
def wrAll : List (Nat × (Nat → Int)) → Dk → Bool × Dk
  | [], D => D.sy
  | e :: l, D => if D.pgone then (false, D.dead) else wrAll l (D.lit.put e.1 e.2)
def secAt (xs : List Int) (q j : Nat) : Int := if j < 64 then (xs[64 * q + j]?).getD 0 else 0
def rmW (fr : Nat) (xs : List Int) : Nat → Nat → List (Nat × (Nat → Int))
  | 0, _ => []
  | k + 1, q => (fr + (2 + q), secAt xs q) :: rmW fr xs k (q + 1)
theorem sec_set (xs : List Int) (q : Nat) (h : 64 * q < xs.length) : setA (List.replicate 64 (Value.int .u8 0)).toArray 0 (((xs.drop (64 * q)).take 64).map (Value.int .u8)) = ((secL (secAt xs q) 64).map (Value.int .u8)).toArray := by
  apply Array.ext'
  rw [setA_toList _ _ _ (by simp; omega)]
  apply List.ext_getElem?
  intro j
  simp only [List.take_zero, List.nil_append, Nat.zero_add, List.length_map, List.length_take, List.length_drop]
  by_cases h6 : j < 64
  · have e1 : ((secL (secAt xs q) 64).map (Value.int .u8))[j]? = some ((Value.int .u8) (secAt xs q j)) := by simp [secL, h6]
    rw [e1]
    by_cases hj : 64 * q + j < xs.length
    · rw [List.getElem?_append_left (by simp; omega)]
      simp only [List.getElem?_map, List.getElem?_take, List.getElem?_drop, if_pos h6]
      simp only [secAt, if_pos h6, List.getElem?_eq_getElem hj, Option.map_some, Option.getD_some]
    · rw [List.getElem?_append_right (by simp; omega)]
      simp only [List.length_map, List.length_take, List.length_drop, List.getElem?_drop, List.getElem?_replicate]
      rw [if_pos (by omega)]
      simp only [secAt, if_pos h6, List.getElem?_eq_none (show xs.length ≤ 64 * q + j by omega), Option.getD_none]
  · rw [List.getElem?_eq_none (by simp; omega), List.getElem?_eq_none (by simp [secL_len]; omega)]
theorem secAt_RB {xs : List Int} (hx : ∀ x ∈ xs, 0 ≤ x ∧ x ≤ 255) (q : Nat) : RB (secAt xs q) := by
  refine ⟨fun j => ?_⟩
  unfold secAt
  split
  · cases h : xs[64 * q + j]? with
    | none => simp
    | some v => exact hx v (List.mem_of_getElem? h)
  · omega
theorem apart_blk {L' A : List Chunk} {g0 o1 : Nat} {ob : Obj} (hm : Chunk.blk g0 ob ∈ L') (h : ∀ g ∈ feet A, g ∉ feet L') : ∀ g o, some (⟨g0, o1, none⟩ : Addr) = some ⟨g, o, none⟩ → g ∉ feet A := by
  intro g o hb hg
  simp only [Option.some.injEq, Addr.mk.injEq, and_true] at hb
  exact h g hg (List.mem_flatMap.2 ⟨_, hm, by simp [Chunk.foot, hb.1]⟩)
def erC (b : Bool) : Int := if b then 0 else 5
set_option maxRecDepth 100000 in
set_option maxHeartbeats 4000000 in
theorem wroom_c (gl gd gw gm fr room : Nat) (h : Hd) (b0 : Option Addr) (len0 cap0 : Nat) (ov : Bool) (D : Dk) (nd : Nat) (hok : D.OK nd) (a : Option Addr) (n cap : Nat) (xs : List Int) (hn : xs.length = n) (hcap : n ≤ cap) (hn9 : n ≤ 2000000) (hln : len0 ≤ n) (hfit : fr + 2 + (n + 63) / 64 ≤ nd) (w : World) (hs : SlE (Value.int .u8) w a xs) (hx : ∀ g o, a = some ⟨g, o, none⟩ → g ∉ [gd, gw, gm]) (hL0 : Has (LgB gl gd fr room h (.slice b0 len0 cap0) ov :: DskL gd gw gm D) w) :
    CA Tryd.prog 37 [.pointer (some ⟨gl, 0, none⟩), .slice a n cap] w (Ret (fun _ : Unit => .int .i64 (erC (wrAll (rmW fr xs ((n + 63) / 64 - len0 / 64) (len0 / 64)) D).1)) [gd, gw, gm] (fun _ => DskL gd gw gm (wrAll (rmW fr xs ((n + 63) / 64 - len0 / 64) (len0 / 64)) D).2) (fun _ => True) w) := by
  have hnd := hok.n9
  obtain ⟨r, hr⟩ : ∃ r, r = wrAll (rmW fr xs ((n + 63) / 64 - len0 / 64) (len0 / 64)) D := ⟨_, rfl⟩
  rw [← hr]
  refine enter (L := (LgB gl gd fr room h (.slice b0 len0 cap0) ov :: DskL gd gw gm D)) (X := [gd, gw, gm]) Tryd.func37 rfl Tryd.ntmps37 rfl rfl hL0 ?_
  repeat (first | refine c_seq ?_ | (refine c_region (id := 0) ?_; refine sq qa ?_; refine l_nil ?_) | (refine c_region (id := 1) ?_; refine sq qm ?_; refine sq qn ?_; refine sq qf ?_; refine sq ql ?_; refine sq qls ?_; refine sq (by exact Qt.cast (v' := .int .i64 (((len0 / 64) : Nat) : Int)) (congrArg (Value.int .i64) (by omega)) (q_quo rfl rfl (by omega) (by omega) (by first | rfl | (simp only [IntKind.wrap_i64]; omega)))) ?_; refine sq (by exact Qt.cast (v' := .int .i64 ((64 * (len0 / 64) : Nat) : Int)) (congrArg (Value.int .i64) (by omega)) (q_mul64 rfl rfl ⟨by omega, by omega⟩ rfl)) ?_; refine sq qa ?_; refine l_nil ?_) | refine n_then ?_ | refine c_block ?_ | refine c_skip ?_ | refine n_block ?_ | refine c_exit ?_ | refine n_then_exit ?_ | refine n_block_eq ?_ | refine n_block_ne rfl ?_ | refine c_ret ?_ | refine n_then_ret ?_ | refine n_block_ret ?_ | refine c_cond_t rfl ?_ | refine c_cond_f rfl ?_ | refine r_succ ?_ )
  refine fgs (A := (DskL gd gw gm D ++ [LgB gl gd fr room h (.slice b0 len0 cap0) ov])) (R := []) (by (repeat (first | exact Sp.nil | (apply Sp.cons; focus (repeat (first | exact Rm.here | apply Rm.there)))))) ?_
  refine c_loop (γ := Nat × Dk × Nat) (fun z => [(5, .int .i64 ((64 * z.1 : Nat) : Int)), (0, .pointer (some ⟨gl, 0, none⟩)), (1, .slice a n cap), (4, .int .i64 0)]) (fun z => z.2.2) (fun z => (DskL gd gw gm z.2.1 ++ [LgB gl gd fr room h (.slice b0 len0 cap0) ov])) (fun z => z.1 ≤ (n + 63) / 64 ∧ z.2.1.OK nd ∧ wrAll (rmW fr xs ((n + 63) / 64 - z.1) z.1) z.2.1 = r ∧ w.heap.size ≤ z.2.2) (fun z => (n + 63) / 64 - z.1) ⟨len0 / 64, D, w.heap.size⟩ ⟨by dsimp only; omega, hok, hr.symm, Nat.le_refl _⟩ ⟨rfl, rfl, rfl, rfl, trivial⟩ rfl (List.Sublist.refl _) ?_
  rintro ⟨q, Dq, mm⟩ ⟨hq, hokq, hrq, hmm⟩
  dsimp only at hq hokq hrq hmm ⊢
  by_cases h8 : 64 * q < n
  · obtain ⟨gx, ox, rfl, hO⟩ := hs.get (i := 0) (by omega)
    have hgx := hx gx ox rfl
    have hOq : Old w gx (ox + 64 * q) (((xs.drop (64 * q)).take 64).map (Value.int .u8)) := by
      have h9 := (hO.drp (64 * q)).tak 64
      rwa [← List.map_drop, ← List.map_take] at h9
    obtain ⟨k9, hk9⟩ : ∃ k9, (n + 63) / 64 - q = k9 + 1 := ⟨(n + 63) / 64 - q - 1, by omega⟩
    have hk8 : (n + 63) / 64 - (q + 1) = k9 := by omega
    rw [hk9, rmW, wrAll] at hrq
    by_cases hpq : Dq.pgone = true
    · rw [if_pos hpq] at hrq
      subst hrq
      repeat (first | refine c_seq ?_ | (refine c_region (id := 2) ?_; refine sq qm ?_; refine sq qm ?_; refine sq qls ?_; refine sq (by first | exact dlsst | exact dlssf) ?_; refine l_nil ?_) | (refine c_region (id := 4) ?_; refine se ?_; refine ea ?_; refine l_nil ?_) | (refine x_region (id := 5) (some 4) [(0, .n), (1, .n), (2, .n), (3, .n), (4, .b)] _ mixed (by kernel_rfl) (List.Sublist.refl _) ?_; refine xn rfl qsa ?_; refine xn rfl qm ?_; refine xn rfl qm ?_; refine xn rfl (by exact qs (b' := some ⟨gx, ox + 64 * q, none⟩) (hb' := by rw [if_neg (by omega)]; simp [Addr.add_mid])) ?_; refine x_b rfl ?_; refine e_copy (cs := (List.replicate 64 (Value.int .u8 0)).toArray) (news := ((xs.drop (64 * q)).take 64).map (Value.int .u8)) (k := min (n - 64 * q) 64) rfl rfl rfl (RdN.old hOq hgx) (by simp [hn]; omega) (allOne_u8L _) (by rw [sec_set _ _ (by omega)]; (repeat (first | exact Pl.here | apply Pl.there))) (by simp [hn]; omega) (by first | (left; simp; done) | (right; omega)) (by simp [hn]; omega) ?_; refine x_k (List.nil_sublist _) ?_; refine x_nil ?_) | refine n_then ?_ | refine c_block ?_ | refine c_skip ?_ | refine n_block ?_ | refine c_exit ?_ | refine n_then_exit ?_ | refine n_block_eq ?_ | refine n_block_ne rfl ?_ | refine c_ret ?_ | refine n_then_ret ?_ | refine n_block_ret ?_ | refine c_cond_t rfl ?_ | refine c_cond_f rfl ?_ | refine r_succ ?_ )
      repeat (first | refine c_seq ?_ | (refine x_region (id := 6) none [(0, .n), (1, .n), (2, .n), (3, .q), (4, .n), (5, .n), (6, .n), (7, .q), (8, .n), (9, .n), (10, .n), (11, .n), (12, .n), (13, .e), (14, .n)] [LgB gl gd fr room h (.slice b0 len0 cap0) ov] mixed (by kernel_rfl) (by (repeat (first | exact List.nil_sublist _ | exact List.Sublist.slnil | apply List.Sublist.cons_cons | exact List.Sublist.refl _ | apply List.Sublist.cons))) ?_; refine xn rfl qm ?_; refine xn rfl qn ?_; refine xn rfl qf ?_; refine xq rfl ql ?_; refine xn rfl qm ?_; refine xn rfl qn ?_; refine xn rfl qf ?_; refine xq rfl ql ?_; refine xn rfl qadd64 ?_; refine xn rfl qm ?_; refine xn rfl (by exact Qt.cast (v' := .int .i64 ((q : Nat) : Int)) (congrArg (Value.int .i64) (by omega)) (q_quo rfl rfl (by omega) (by omega) (by first | rfl | (simp only [IntKind.wrap_i64]; omega)))) ?_; refine xn rfl (by exact Qt.cast (v' := .int .i64 ((fr + (2 + q) : Nat) : Int)) (congrArg (Value.int .i64) (by omega)) (q_add64 rfl rfl ⟨by omega, by omega⟩ rfl)) ?_; refine xn rfl qsa ?_; refine x_e rfl ?_; refine e_callX (DskL gd gw gm Dq) _ rfl rfl (by kernel_rfl) rfl (by (repeat (first | exact Sp.nil | (apply Sp.cons; focus (repeat (first | exact Rm.here | apply Rm.there)))))) (fun w hC hm hA hL hap => by exact wr_lost gd gw gm Dq hokq.hf hpq (fr + (2 + q)) (by rw [hokq.len]; omega) _ _ w hA) (by intro g hg; rw [feetD] at hg; exact .inl hg) (fun _ => rfl) ?_; intro _ m6 _ _ hm6; refine xk ?_; refine xn rfl qa ?_; refine x_nil ?_) | (refine c_region (id := 7) ?_; refine sq qm ?_; refine sq (by first | exact dneqt | exact dneqf) ?_; refine l_nil ?_) | (refine c_region (id := 8) ?_; refine sq qm ?_; refine sq qa ?_; refine l_nil ?_) | refine n_then ?_ | refine c_block ?_ | refine c_skip ?_ | refine n_block ?_ | refine c_exit ?_ | refine n_then_exit ?_ | refine n_block_eq ?_ | refine n_block_ne rfl ?_ | refine c_ret ?_ | refine n_then_ret ?_ | refine n_block_ret ?_ | refine c_cond_t rfl ?_ | refine c_cond_f rfl ?_ | refine r_succ ?_ )
      (first | apply r_ret () | apply r_end ()); exact rfl; exact rfl; exact (.tmp rfl .nil); exact rfl; exact (by exact (by (repeat (first | exact List.nil_sublist _ | exact List.Sublist.slnil | apply List.Sublist.cons_cons | exact List.Sublist.refl _ | apply List.Sublist.cons)))); exact (by intro g hg; rw [feetD] at hg; exact .inl hg); exact trivial
    · have hpq : Dq.pgone = false := by simpa using hpq
      rw [if_neg (by simp [hpq])] at hrq
      have hok2 := (hokq.lit hpq).put (fr + (2 + q)) (by omega) (secAt xs q)
      repeat (first | refine c_seq ?_ | (refine c_region (id := 2) ?_; refine sq qm ?_; refine sq qm ?_; refine sq qls ?_; refine sq (by first | exact dlsst | exact dlssf) ?_; refine l_nil ?_) | (refine c_region (id := 4) ?_; refine se ?_; refine ea ?_; refine l_nil ?_) | (refine x_region (id := 5) (some 4) [(0, .n), (1, .n), (2, .n), (3, .n), (4, .b)] _ mixed (by kernel_rfl) (List.Sublist.refl _) ?_; refine xn rfl qsa ?_; refine xn rfl qm ?_; refine xn rfl qm ?_; refine xn rfl (by exact qs (b' := some ⟨gx, ox + 64 * q, none⟩) (hb' := by rw [if_neg (by omega)]; simp [Addr.add_mid])) ?_; refine x_b rfl ?_; refine e_copy (cs := (List.replicate 64 (Value.int .u8 0)).toArray) (news := ((xs.drop (64 * q)).take 64).map (Value.int .u8)) (k := min (n - 64 * q) 64) rfl rfl rfl (RdN.old hOq hgx) (by simp [hn]; omega) (allOne_u8L _) (by rw [sec_set _ _ (by omega)]; (repeat (first | exact Pl.here | apply Pl.there))) (by simp [hn]; omega) (by first | (left; simp; done) | (right; omega)) (by simp [hn]; omega) ?_; refine x_k (List.nil_sublist _) ?_; refine x_nil ?_) | refine n_then ?_ | refine c_block ?_ | refine c_skip ?_ | refine n_block ?_ | refine c_exit ?_ | refine n_then_exit ?_ | refine n_block_eq ?_ | refine n_block_ne rfl ?_ | refine c_ret ?_ | refine n_then_ret ?_ | refine n_block_ret ?_ | refine c_cond_t rfl ?_ | refine c_cond_f rfl ?_ | refine r_succ ?_ )
      repeat (first | refine c_seq ?_ | (refine c_region (id := 3) ?_; refine sq qm ?_; refine sq (by exact Qt.cast (v' := .int .i64 ((64 * (q + 1) : Nat) : Int)) (congrArg (Value.int .i64) (by omega)) (q_add64 rfl rfl ⟨by omega, by omega⟩ rfl)) ?_; refine sq qa ?_; refine l_nil ?_) | (refine x_region (id := 6) none [(0, .n), (1, .n), (2, .n), (3, .q), (4, .n), (5, .n), (6, .n), (7, .q), (8, .n), (9, .n), (10, .n), (11, .n), (12, .n), (13, .e), (14, .n)] [LgB gl gd fr room h (.slice b0 len0 cap0) ov] mixed (by kernel_rfl) (by (repeat (first | exact List.nil_sublist _ | exact List.Sublist.slnil | apply List.Sublist.cons_cons | exact List.Sublist.refl _ | apply List.Sublist.cons))) ?_; refine xn rfl qm ?_; refine xn rfl qn ?_; refine xn rfl qf ?_; refine xq rfl ql ?_; refine xn rfl qm ?_; refine xn rfl qn ?_; refine xn rfl qf ?_; refine xq rfl ql ?_; refine xn rfl qadd64 ?_; refine xn rfl qm ?_; refine xn rfl (by exact Qt.cast (v' := .int .i64 ((q : Nat) : Int)) (congrArg (Value.int .i64) (by omega)) (q_quo rfl rfl (by omega) (by omega) (by first | rfl | (simp only [IntKind.wrap_i64]; omega)))) ?_; refine xn rfl (by exact Qt.cast (v' := .int .i64 ((fr + (2 + q) : Nat) : Int)) (congrArg (Value.int .i64) (by omega)) (q_add64 rfl rfl ⟨by omega, by omega⟩ rfl)) ?_; refine xn rfl qsa ?_; refine x_e rfl ?_; refine e_callX (DskL gd gw gm Dq) _ rfl rfl (by kernel_rfl) rfl (by (repeat (first | exact Sp.nil | (apply Sp.cons; focus (repeat (first | exact Rm.here | apply Rm.there)))))) (fun w hC hm hA hL hap => by exact wr_ok gd gw gm Dq hokq.hf hpq hokq.le (fr + (2 + q)) (by rw [hokq.len]; omega) (secAt xs q) (some ⟨_, 0, none⟩) 64 w (SlE.blk hL (by (repeat (first | exact List.Mem.head _ | apply List.Mem.tail))) 0 64 (by rw [List.drop_zero]; exact List.take_of_length_le (by simp [secL_len]))) (apart_blk (by (repeat (first | exact List.Mem.head _ | apply List.Mem.tail))) hap) hA) (by intro g hg; rw [feetD] at hg; exact .inl hg) (fun _ => rfl) ?_; intro _ m6 _ _ hm6; refine xk ?_; refine xn rfl qa ?_; refine x_nil ?_) | (refine c_region (id := 7) ?_; refine sq qm ?_; refine sq (by first | exact dneqt | exact dneqf) ?_; refine l_nil ?_) | refine n_then ?_ | refine c_block ?_ | refine c_skip ?_ | refine n_block ?_ | refine c_exit ?_ | refine n_then_exit ?_ | refine n_block_eq ?_ | refine n_block_ne rfl ?_ | refine c_ret ?_ | refine n_then_ret ?_ | refine n_block_ret ?_ | refine c_cond_t rfl ?_ | refine c_cond_f rfl ?_ | refine r_succ ?_ )
      refine c_round ⟨q + 1, Dq.lit.put (fr + (2 + q)) (secAt xs q), m6⟩ ⟨by dsimp only; omega, hok2, by dsimp only; rw [hk8]; exact hrq, by dsimp only; omega⟩ (by dsimp only; omega) ⟨rfl, rfl, rfl, rfl, trivial⟩ (by rfl) (by exact (by (repeat (first | exact List.nil_sublist _ | exact List.Sublist.slnil | apply List.Sublist.cons_cons | exact List.Sublist.refl _ | apply List.Sublist.cons))))
  · have hk9 : (n + 63) / 64 - q = 0 := by omega
    rw [hk9, rmW, wrAll, Dk.sy] at hrq
    by_cases hpq : Dq.pgone = true
    · rw [if_pos hpq] at hrq
      subst hrq
      repeat (first | refine c_seq ?_ | (refine c_region (id := 2) ?_; refine sq qm ?_; refine sq qm ?_; refine sq qls ?_; refine sq (by first | exact dlsst | exact dlssf) ?_; refine l_nil ?_) | (refine c_region (id := 9) ?_; refine sq qm ?_; refine sq qn ?_; refine sq qf ?_; refine sq ql ?_; refine se ?_; refine e_callX (DskL gd gw gm Dq) _ rfl rfl (by kernel_rfl) rfl (by (repeat (first | exact Sp.nil | (apply Sp.cons; focus (repeat (first | exact Rm.here | apply Rm.there)))))) (fun w hC hm hA hL hap => by exact sync_lost gd gw gm Dq hokq.hf hpq w hA) (by intro g hg; rw [feetD] at hg; exact .inl hg) (fun _ => rfl) ?_; intro _ m6 _ _ hm6; refine sq qa ?_; refine l_nil ?_) | refine n_then ?_ | refine c_block ?_ | refine c_skip ?_ | refine n_block ?_ | refine c_exit ?_ | refine n_then_exit ?_ | refine n_block_eq ?_ | refine n_block_ne rfl ?_ | refine c_ret ?_ | refine n_then_ret ?_ | refine n_block_ret ?_ | refine c_cond_t rfl ?_ | refine c_cond_f rfl ?_ | refine r_succ ?_ )
      (first | apply r_ret () | apply r_end ()); exact rfl; exact rfl; exact (.tmp rfl .nil); exact rfl; exact (by exact (by (repeat (first | exact List.nil_sublist _ | exact List.Sublist.slnil | apply List.Sublist.cons_cons | exact List.Sublist.refl _ | apply List.Sublist.cons)))); exact (by intro g hg; rw [feetD] at hg; exact .inl hg); exact trivial
    · have hpq : Dq.pgone = false := by simpa using hpq
      rw [if_neg (by simp [hpq])] at hrq
      subst hrq
      repeat (first | refine c_seq ?_ | (refine c_region (id := 2) ?_; refine sq qm ?_; refine sq qm ?_; refine sq qls ?_; refine sq (by first | exact dlsst | exact dlssf) ?_; refine l_nil ?_) | (refine c_region (id := 9) ?_; refine sq qm ?_; refine sq qn ?_; refine sq qf ?_; refine sq ql ?_; refine se ?_; refine e_callX (DskL gd gw gm Dq) _ rfl rfl (by kernel_rfl) rfl (by (repeat (first | exact Sp.nil | (apply Sp.cons; focus (repeat (first | exact Rm.here | apply Rm.there)))))) (fun w hC hm hA hL hap => by exact sync_ok gd gw gm Dq hokq.hf hpq w hA) (by intro g hg; rw [feetD] at hg; exact .inl hg) (fun _ => rfl) ?_; intro _ m6 _ _ hm6; refine sq qa ?_; refine l_nil ?_) | refine n_then ?_ | refine c_block ?_ | refine c_skip ?_ | refine n_block ?_ | refine c_exit ?_ | refine n_then_exit ?_ | refine n_block_eq ?_ | refine n_block_ne rfl ?_ | refine c_ret ?_ | refine n_then_ret ?_ | refine n_block_ret ?_ | refine c_cond_t rfl ?_ | refine c_cond_f rfl ?_ | refine r_succ ?_ )
      (first | apply r_ret () | apply r_end ()); exact rfl; exact rfl; exact (.tmp rfl .nil); exact rfl; exact (by exact (by (repeat (first | exact List.nil_sublist _ | exact List.Sublist.slnil | apply List.Sublist.cons_cons | exact List.Sublist.refl _ | apply List.Sublist.cons)))); exact (by intro g hg; rw [feetD] at hg; exact .inl hg); exact trivial
end Go.Proofs.YtgmghkakiocmjaaDoor
namespace Go.Proofs.YtgmghkakiocmjaaDoor
open Go Go.RowKit
set_option linter.unusedVariables false
set_option linter.unusedSimpArgs false
set_option maxRecDepth 100000 in
set_option maxHeartbeats 4000000 in
theorem become_0 (gl gd gw gm fr room : Nat) (h h' : Hd) (s : Value) (D : Dk) (nd : Nat) (hok : D.OK nd) (b : Option Addr) (n cap : Nat) (hn9 : n ≤ 2000000) (hser : 0 ≤ h.ser ∧ h.ser < 4611686018427387904) (h1 : h'.ser = h.ser + 1) (h2 : h'.cnt = n) (p : Nat) (hp : (p : Int) = h'.ser % 2) (hfit : fr + 2 ≤ nd) (hp0 : D.pgone = true) (w : World) (hL0 : Has (LgB gl gd fr room h s false :: DskL gd gw gm D) w) :
    CA Tryd.prog 36 [.pointer (some ⟨gl, 0, none⟩), .slice b n cap, .agg (noteE h'.nt).toArray] w (Ret (fun _ : Unit => .int .i64 5) [gl, gd, gw, gm] (fun _ => (LgB gl gd fr room h s true :: DskL gd gw gm D.dead)) (fun _ => True) w) := by
  have hnd := hok.n9
  refine enter (L := (LgB gl gd fr room h s false :: DskL gd gw gm D)) (X := [gl, gd, gw, gm]) Tryd.func36 rfl Tryd.ntmps36 rfl rfl hL0 ?_
  repeat (first | refine c_seq ?_ | (refine c_region (id := 0) ?_; refine se ?_; refine eb ?_; refine sq qa ?_; refine l_nil ?_) | (refine x_region (id := 1) (some 12) [(0, .n), (1, .n), (2, .n), (3, .n), (4, .q), (5, .n), (6, .n), (7, .n), (8, .n), (9, .q), (10, .n), (11, .e), (12, .b)] _ mixed (by kernel_rfl) (List.Sublist.refl _) ?_; refine xn rfl qm ?_; refine xn rfl qn ?_; refine xn rfl qf ?_; refine xn rfl qf ?_; refine xq rfl ql ?_; refine xn rfl (by exact Qt.cast (v' := .int .u64 h'.ser) (congrArg (Value.int .u64) (by omega)) (q_addU rfl rfl)) ?_; refine xn rfl qm ?_; refine xn rfl qls ?_; refine xn rfl (by exact Qt.cast (v' := .int .u64 h'.cnt) (congrArg (Value.int .u64) (by omega)) (q_convU rfl)) ?_; refine xq rfl (by exact qlb (hl := by rfl)) ?_; refine xn rfl qbs ?_; refine x_e rfl ?_; refine ea ?_; refine xk ?_; refine x_b rfl ?_; refine esa ?_ (hk := by rfl) (ho := by rfl) (hoff := by rfl); refine x_k (List.nil_sublist _) ?_; refine x_nil ?_) | refine n_then ?_ | refine c_block ?_ | refine c_skip ?_ | refine n_block ?_ | refine c_exit ?_ | refine n_then_exit ?_ | refine n_block_eq ?_ | refine n_block_ne rfl ?_ | refine c_ret ?_ | refine n_then_ret ?_ | refine n_block_ret ?_ | refine c_cond_t rfl ?_ | refine c_cond_f rfl ?_ | refine r_succ ?_ )
  repeat (first | refine c_seq ?_ | (refine x_region (id := 2) none [(0, .n), (1, .n), (2, .n), (3, .q), (4, .n), (5, .n), (6, .n), (7, .q), (8, .q), (11, .q), (9, .e), (10, .n), (12, .e), (13, .e), (14, .n)] [.blk (w.heap.size + 1) (.cells (headE h').toArray 70 (0, 0)), LgB gl gd fr room h s false] mixed (by kernel_rfl) (by (repeat (first | exact List.nil_sublist _ | exact List.Sublist.slnil | apply List.Sublist.cons_cons | exact List.Sublist.refl _ | apply List.Sublist.cons))) ?_; refine xn rfl qm ?_; refine xn rfl qn ?_; refine xn rfl qf ?_; refine xq rfl ql ?_; refine xn rfl qm ?_; refine xn rfl qn ?_; refine xn rfl qf ?_; refine xq rfl ql ?_; refine xq rfl (by exact qlb (hl := by rfl)) ?_; refine xq rfl (by exact qlb (hl := by rfl)) ?_; refine x_e rfl ?_; refine ecp rfl rfl (fun w hC hm hL => by exact place_c h' (by omega) w) ?_; intro m' hm'; refine xk ?_; refine xn rfl (by exact Qt.cast (v' := .int .i64 ((fr + p : Nat) : Int)) (congrArg (Value.int .i64) (by omega)) (q_add64 rfl rfl ⟨by omega, by omega⟩ rfl)) ?_; refine x_e rfl ?_; refine e_callL (enc := (Value.int .u8)) (e := 5) rfl rfl (by kernel_rfl) rfl (fun w hC hm hL => by exact sector_c h' w) ?_; intro b1 cap1 zs1 m1 hz1 ho1 hm1; subst hz1; rw [secL_len] at ho1; simp only [secL_len]; refine xk ?_; refine x_e rfl ?_; refine e_callX (DskL gd gw gm D) _ rfl rfl (by kernel_rfl) rfl (by (repeat (first | exact Sp.nil | (apply Sp.cons; focus (repeat (first | exact Rm.here | apply Rm.there)))))) (fun w hC hm hA hL hap => by exact wr_lost gd gw gm D hok.hf hp0 (fr + p) (by rw [hok.len]; omega) _ _ w hA) (by intro g hg; rw [feetD] at hg; exact .inl (by simp at hg ⊢; omega)) (fun _ => rfl) ?_; intro _ m6 _ _ hm6; refine xk ?_; refine xn rfl qa ?_; refine x_nil ?_) | (refine c_region (id := 3) ?_; refine sq qm ?_; refine sq (by first | exact dneqt | exact dneqf) ?_; refine l_nil ?_) | (refine c_region (id := 4) ?_; refine sq qm ?_; refine se ?_; refine e_call_upd rfl rfl (by kernel_rfl) rfl (fun w hC hm hL => by exact end_c gl gd fr room h s false w (hL.sub (by (repeat (first | exact List.nil_sublist _ | exact List.Sublist.slnil | apply List.Sublist.cons_cons | exact List.Sublist.refl _ | apply List.Sublist.cons))))) (by (repeat (first | exact Pl.here | apply Pl.there))) (.inl (by simp)) ?_; intro m' hm'; refine sq qa ?_; refine l_nil ?_) | refine n_then ?_ | refine c_block ?_ | refine c_skip ?_ | refine n_block ?_ | refine c_exit ?_ | refine n_then_exit ?_ | refine n_block_eq ?_ | refine n_block_ne rfl ?_ | refine c_ret ?_ | refine n_then_ret ?_ | refine n_block_ret ?_ | refine c_cond_t rfl ?_ | refine c_cond_f rfl ?_ | refine r_succ ?_ )
  refine fgs (A := (LgB gl gd fr room h s true :: DskL gd gw gm D.dead)) (by (repeat (first | exact Sp.nil | (apply Sp.cons; focus (repeat (first | exact Rm.here | apply Rm.there)))))) ?_
  (first | apply r_ret () | apply r_end ()); exact rfl; exact rfl; exact (.tmp rfl .nil); exact rfl; exact (List.Sublist.refl _); exact (by intro g hg; simp [feet, Chunk.foot] at hg; exact .inl (by simp; omega)); exact trivial
set_option maxRecDepth 100000 in
set_option maxHeartbeats 4000000 in
theorem become_1 (gl gd gw gm fr room : Nat) (h h' : Hd) (s : Value) (D : Dk) (nd : Nat) (hok : D.OK nd) (b : Option Addr) (n cap : Nat) (hn9 : n ≤ 2000000) (hser : 0 ≤ h.ser ∧ h.ser < 4611686018427387904) (h1 : h'.ser = h.ser + 1) (h2 : h'.cnt = n) (p : Nat) (hp : (p : Int) = h'.ser % 2) (hfit : fr + 2 ≤ nd) (hp0 : D.pgone = false) (hp1 : (D.lit.put (fr + p) (secH h')).pgone = true) (w : World) (hL0 : Has (LgB gl gd fr room h s false :: DskL gd gw gm D) w) :
    CA Tryd.prog 36 [.pointer (some ⟨gl, 0, none⟩), .slice b n cap, .agg (noteE h'.nt).toArray] w (Ret (fun _ : Unit => .int .i64 5) [gl, gd, gw, gm] (fun _ => (LgB gl gd fr room h s true :: DskL gd gw gm (D.lit.put (fr + p) (secH h')).dead)) (fun _ => True) w) := by
  have hok1 := (hok.lit hp0).put (fr + p) (by omega) (secH h')
  have hnd := hok.n9
  refine enter (L := (LgB gl gd fr room h s false :: DskL gd gw gm D)) (X := [gl, gd, gw, gm]) Tryd.func36 rfl Tryd.ntmps36 rfl rfl hL0 ?_
  repeat (first | refine c_seq ?_ | (refine c_region (id := 0) ?_; refine se ?_; refine eb ?_; refine sq qa ?_; refine l_nil ?_) | (refine x_region (id := 1) (some 12) [(0, .n), (1, .n), (2, .n), (3, .n), (4, .q), (5, .n), (6, .n), (7, .n), (8, .n), (9, .q), (10, .n), (11, .e), (12, .b)] _ mixed (by kernel_rfl) (List.Sublist.refl _) ?_; refine xn rfl qm ?_; refine xn rfl qn ?_; refine xn rfl qf ?_; refine xn rfl qf ?_; refine xq rfl ql ?_; refine xn rfl (by exact Qt.cast (v' := .int .u64 h'.ser) (congrArg (Value.int .u64) (by omega)) (q_addU rfl rfl)) ?_; refine xn rfl qm ?_; refine xn rfl qls ?_; refine xn rfl (by exact Qt.cast (v' := .int .u64 h'.cnt) (congrArg (Value.int .u64) (by omega)) (q_convU rfl)) ?_; refine xq rfl (by exact qlb (hl := by rfl)) ?_; refine xn rfl qbs ?_; refine x_e rfl ?_; refine ea ?_; refine xk ?_; refine x_b rfl ?_; refine esa ?_ (hk := by rfl) (ho := by rfl) (hoff := by rfl); refine x_k (List.nil_sublist _) ?_; refine x_nil ?_) | refine n_then ?_ | refine c_block ?_ | refine c_skip ?_ | refine n_block ?_ | refine c_exit ?_ | refine n_then_exit ?_ | refine n_block_eq ?_ | refine n_block_ne rfl ?_ | refine c_ret ?_ | refine n_then_ret ?_ | refine n_block_ret ?_ | refine c_cond_t rfl ?_ | refine c_cond_f rfl ?_ | refine r_succ ?_ )
  repeat (first | refine c_seq ?_ | (refine x_region (id := 2) none [(0, .n), (1, .n), (2, .n), (3, .q), (4, .n), (5, .n), (6, .n), (7, .q), (8, .q), (11, .q), (9, .e), (10, .n), (12, .e), (13, .e), (14, .n)] [.blk (w.heap.size + 1) (.cells (headE h').toArray 70 (0, 0)), LgB gl gd fr room h s false] mixed (by kernel_rfl) (by (repeat (first | exact List.nil_sublist _ | exact List.Sublist.slnil | apply List.Sublist.cons_cons | exact List.Sublist.refl _ | apply List.Sublist.cons))) ?_; refine xn rfl qm ?_; refine xn rfl qn ?_; refine xn rfl qf ?_; refine xq rfl ql ?_; refine xn rfl qm ?_; refine xn rfl qn ?_; refine xn rfl qf ?_; refine xq rfl ql ?_; refine xq rfl (by exact qlb (hl := by rfl)) ?_; refine xq rfl (by exact qlb (hl := by rfl)) ?_; refine x_e rfl ?_; refine ecp rfl rfl (fun w hC hm hL => by exact place_c h' (by omega) w) ?_; intro m' hm'; refine xk ?_; refine xn rfl (by exact Qt.cast (v' := .int .i64 ((fr + p : Nat) : Int)) (congrArg (Value.int .i64) (by omega)) (q_add64 rfl rfl ⟨by omega, by omega⟩ rfl)) ?_; refine x_e rfl ?_; refine e_callL (enc := (Value.int .u8)) (e := 5) rfl rfl (by kernel_rfl) rfl (fun w hC hm hL => by exact sector_c h' w) ?_; intro b1 cap1 zs1 m1 hz1 ho1 hm1; subst hz1; rw [secL_len] at ho1; simp only [secL_len]; refine xk ?_; refine x_e rfl ?_; refine e_callX (DskL gd gw gm D) _ rfl rfl (by kernel_rfl) rfl (by (repeat (first | exact Sp.nil | (apply Sp.cons; focus (repeat (first | exact Rm.here | apply Rm.there)))))) (fun w hC hm hA hL hap => by exact wr_ok gd gw gm D hok.hf hp0 hok.le (fr + p) (by rw [hok.len]; omega) (secH h') _ _ w (SlE.own hL (by (repeat (first | exact List.Mem.head _ | apply List.Mem.tail))) ho1) (apart_sl (by (repeat (first | exact List.Mem.head _ | apply List.Mem.tail))) hap) hA) (by intro g hg; rw [feetD] at hg; exact .inl (by simp at hg ⊢; omega)) (fun _ => rfl) ?_; intro _ m6 _ _ hm6; refine xk ?_; refine xn rfl qa ?_; refine x_nil ?_) | (refine c_region (id := 3) ?_; refine sq qm ?_; refine sq (by first | exact dneqt | exact dneqf) ?_; refine l_nil ?_) | (refine c_region (id := 5) ?_; refine sq qm ?_; refine sq qn ?_; refine sq qf ?_; refine sq ql ?_; refine se ?_; refine e_callX (DskL gd gw gm (D.lit.put (fr + p) (secH h'))) _ rfl rfl (by kernel_rfl) rfl (by (repeat (first | exact Sp.nil | (apply Sp.cons; focus (repeat (first | exact Rm.here | apply Rm.there)))))) (fun w hC hm hA hL hap => by exact sync_lost gd gw gm (D.lit.put (fr + p) (secH h')) hok1.hf hp1 w hA) (by intro g hg; rw [feetD] at hg; exact .inl (by simp at hg ⊢; omega)) (fun _ => rfl) ?_; intro _ m7 _ _ hm7; refine sq qa ?_; refine l_nil ?_) | (refine c_region (id := 6) ?_; refine sq qm ?_; refine sq (by first | exact dneqt | exact dneqf) ?_; refine l_nil ?_) | (refine c_region (id := 7) ?_; refine sq qm ?_; refine se ?_; refine e_call_upd rfl rfl (by kernel_rfl) rfl (fun w hC hm hL => by exact end_c gl gd fr room h s false w (hL.sub (by (repeat (first | exact List.nil_sublist _ | exact List.Sublist.slnil | apply List.Sublist.cons_cons | exact List.Sublist.refl _ | apply List.Sublist.cons))))) (by (repeat (first | exact Pl.here | apply Pl.there))) (.inl (by simp)) ?_; intro m' hm'; refine sq qa ?_; refine l_nil ?_) | refine n_then ?_ | refine c_block ?_ | refine c_skip ?_ | refine n_block ?_ | refine c_exit ?_ | refine n_then_exit ?_ | refine n_block_eq ?_ | refine n_block_ne rfl ?_ | refine c_ret ?_ | refine n_then_ret ?_ | refine n_block_ret ?_ | refine c_cond_t rfl ?_ | refine c_cond_f rfl ?_ | refine r_succ ?_ )
  refine fgs (A := (LgB gl gd fr room h s true :: DskL gd gw gm (D.lit.put (fr + p) (secH h')).dead)) (by (repeat (first | exact Sp.nil | (apply Sp.cons; focus (repeat (first | exact Rm.here | apply Rm.there)))))) ?_
  (first | apply r_ret () | apply r_end ()); exact rfl; exact rfl; exact (.tmp rfl .nil); exact rfl; exact (List.Sublist.refl _); exact (by intro g hg; simp [feet, Chunk.foot] at hg; exact .inl (by simp; omega)); exact trivial
set_option maxRecDepth 100000 in
set_option maxHeartbeats 4000000 in
theorem become_2 (gl gd gw gm fr room : Nat) (h h' : Hd) (s : Value) (D : Dk) (nd : Nat) (hok : D.OK nd) (b : Option Addr) (n cap : Nat) (hn9 : n ≤ 2000000) (hser : 0 ≤ h.ser ∧ h.ser < 4611686018427387904) (h1 : h'.ser = h.ser + 1) (h2 : h'.cnt = n) (p : Nat) (hp : (p : Int) = h'.ser % 2) (hfit : fr + 2 ≤ nd) (hp0 : D.pgone = false) (hp1 : (D.lit.put (fr + p) (secH h')).pgone = false) (w : World) (hL0 : Has (LgB gl gd fr room h s false :: DskL gd gw gm D) w) :
    CA Tryd.prog 36 [.pointer (some ⟨gl, 0, none⟩), .slice b n cap, .agg (noteE h'.nt).toArray] w (Ret (fun _ : Unit => .int .i64 0) [gl, gd, gw, gm] (fun _ => (LgB gl gd fr room h' (.slice b n cap) false :: DskL gd gw gm (D.lit.put (fr + p) (secH h')).lit.still)) (fun _ => True) w) := by
  have hok1 := (hok.lit hp0).put (fr + p) (by omega) (secH h')
  have hnd := hok.n9
  refine enter (L := (LgB gl gd fr room h s false :: DskL gd gw gm D)) (X := [gl, gd, gw, gm]) Tryd.func36 rfl Tryd.ntmps36 rfl rfl hL0 ?_
  repeat (first | refine c_seq ?_ | (refine c_region (id := 0) ?_; refine se ?_; refine eb ?_; refine sq qa ?_; refine l_nil ?_) | (refine x_region (id := 1) (some 12) [(0, .n), (1, .n), (2, .n), (3, .n), (4, .q), (5, .n), (6, .n), (7, .n), (8, .n), (9, .q), (10, .n), (11, .e), (12, .b)] _ mixed (by kernel_rfl) (List.Sublist.refl _) ?_; refine xn rfl qm ?_; refine xn rfl qn ?_; refine xn rfl qf ?_; refine xn rfl qf ?_; refine xq rfl ql ?_; refine xn rfl (by exact Qt.cast (v' := .int .u64 h'.ser) (congrArg (Value.int .u64) (by omega)) (q_addU rfl rfl)) ?_; refine xn rfl qm ?_; refine xn rfl qls ?_; refine xn rfl (by exact Qt.cast (v' := .int .u64 h'.cnt) (congrArg (Value.int .u64) (by omega)) (q_convU rfl)) ?_; refine xq rfl (by exact qlb (hl := by rfl)) ?_; refine xn rfl qbs ?_; refine x_e rfl ?_; refine ea ?_; refine xk ?_; refine x_b rfl ?_; refine esa ?_ (hk := by rfl) (ho := by rfl) (hoff := by rfl); refine x_k (List.nil_sublist _) ?_; refine x_nil ?_) | refine n_then ?_ | refine c_block ?_ | refine c_skip ?_ | refine n_block ?_ | refine c_exit ?_ | refine n_then_exit ?_ | refine n_block_eq ?_ | refine n_block_ne rfl ?_ | refine c_ret ?_ | refine n_then_ret ?_ | refine n_block_ret ?_ | refine c_cond_t rfl ?_ | refine c_cond_f rfl ?_ | refine r_succ ?_ )
  repeat (first | refine c_seq ?_ | (refine x_region (id := 2) none [(0, .n), (1, .n), (2, .n), (3, .q), (4, .n), (5, .n), (6, .n), (7, .q), (8, .q), (11, .q), (9, .e), (10, .n), (12, .e), (13, .e), (14, .n)] [.blk (w.heap.size + 1) (.cells (headE h').toArray 70 (0, 0)), LgB gl gd fr room h s false] mixed (by kernel_rfl) (by (repeat (first | exact List.nil_sublist _ | exact List.Sublist.slnil | apply List.Sublist.cons_cons | exact List.Sublist.refl _ | apply List.Sublist.cons))) ?_; refine xn rfl qm ?_; refine xn rfl qn ?_; refine xn rfl qf ?_; refine xq rfl ql ?_; refine xn rfl qm ?_; refine xn rfl qn ?_; refine xn rfl qf ?_; refine xq rfl ql ?_; refine xq rfl (by exact qlb (hl := by rfl)) ?_; refine xq rfl (by exact qlb (hl := by rfl)) ?_; refine x_e rfl ?_; refine ecp rfl rfl (fun w hC hm hL => by exact place_c h' (by omega) w) ?_; intro m' hm'; refine xk ?_; refine xn rfl (by exact Qt.cast (v' := .int .i64 ((fr + p : Nat) : Int)) (congrArg (Value.int .i64) (by omega)) (q_add64 rfl rfl ⟨by omega, by omega⟩ rfl)) ?_; refine x_e rfl ?_; refine e_callL (enc := (Value.int .u8)) (e := 5) rfl rfl (by kernel_rfl) rfl (fun w hC hm hL => by exact sector_c h' w) ?_; intro b1 cap1 zs1 m1 hz1 ho1 hm1; subst hz1; rw [secL_len] at ho1; simp only [secL_len]; refine xk ?_; refine x_e rfl ?_; refine e_callX (DskL gd gw gm D) _ rfl rfl (by kernel_rfl) rfl (by (repeat (first | exact Sp.nil | (apply Sp.cons; focus (repeat (first | exact Rm.here | apply Rm.there)))))) (fun w hC hm hA hL hap => by exact wr_ok gd gw gm D hok.hf hp0 hok.le (fr + p) (by rw [hok.len]; omega) (secH h') _ _ w (SlE.own hL (by (repeat (first | exact List.Mem.head _ | apply List.Mem.tail))) ho1) (apart_sl (by (repeat (first | exact List.Mem.head _ | apply List.Mem.tail))) hap) hA) (by intro g hg; rw [feetD] at hg; exact .inl (by simp at hg ⊢; omega)) (fun _ => rfl) ?_; intro _ m6 _ _ hm6; refine xk ?_; refine xn rfl qa ?_; refine x_nil ?_) | (refine c_region (id := 3) ?_; refine sq qm ?_; refine sq (by first | exact dneqt | exact dneqf) ?_; refine l_nil ?_) | (refine c_region (id := 5) ?_; refine sq qm ?_; refine sq qn ?_; refine sq qf ?_; refine sq ql ?_; refine se ?_; refine e_callX (DskL gd gw gm (D.lit.put (fr + p) (secH h'))) _ rfl rfl (by kernel_rfl) rfl (by (repeat (first | exact Sp.nil | (apply Sp.cons; focus (repeat (first | exact Rm.here | apply Rm.there)))))) (fun w hC hm hA hL hap => by exact sync_ok gd gw gm (D.lit.put (fr + p) (secH h')) hok1.hf hp1 w hA) (by intro g hg; rw [feetD] at hg; exact .inl (by simp at hg ⊢; omega)) (fun _ => rfl) ?_; intro _ m7 _ _ hm7; refine sq qa ?_; refine l_nil ?_) | (refine c_region (id := 6) ?_; refine sq qm ?_; refine sq (by first | exact dneqt | exact dneqf) ?_; refine l_nil ?_) | (refine c_region (id := 8) ?_; refine sq qm ?_; refine sq qm ?_; refine sq (by exact qlb (hl := by rfl)) ?_; refine sq qm ?_; refine sq qn ?_; refine sq qf ?_; refine se ?_; refine e_store_row (vs := (headE h').toArray) rfl rfl (by rfl) (by rfl) (by rw [lg_set]; (repeat (first | exact Pl.here | apply Pl.there))) (by show 3 + 18 ≤ 23; omega) (.inl (by simp)) ?_; refine sq qn ?_; refine sq qf ?_; refine se ?_; refine es1 ?_ (hg := .inl (by simp)); refine l_nil ?_) | (refine c_region (id := 9) ?_; refine sq qa ?_; refine l_nil ?_) | refine n_then ?_ | refine c_block ?_ | refine c_skip ?_ | refine n_block ?_ | refine c_exit ?_ | refine n_then_exit ?_ | refine n_block_eq ?_ | refine n_block_ne rfl ?_ | refine c_ret ?_ | refine n_then_ret ?_ | refine n_block_ret ?_ | refine c_cond_t rfl ?_ | refine c_cond_f rfl ?_ | refine r_succ ?_ )
  refine fgs (A := (LgB gl gd fr room h' (.slice b n cap) false :: DskL gd gw gm (D.lit.put (fr + p) (secH h')).lit.still)) (by (repeat (first | exact Sp.nil | (apply Sp.cons; focus (repeat (first | exact Rm.here | apply Rm.there)))))) ?_
  (first | apply r_ret () | apply r_end ()); exact rfl; exact rfl; exact (.tmp rfl .nil); exact rfl; exact (List.Sublist.refl _); exact (by intro g hg; simp [feet, Chunk.foot] at hg; exact .inl (by simp; omega)); exact trivial
theorem become_c (gl gd gw gm fr room : Nat) (h h' : Hd) (s : Value) (D : Dk) (nd : Nat) (hok : D.OK nd) (b : Option Addr) (n cap : Nat) (hn9 : n ≤ 2000000) (hser : 0 ≤ h.ser ∧ h.ser < 4611686018427387904) (h1 : h'.ser = h.ser + 1) (h2 : h'.cnt = n) (p : Nat) (hp : (p : Int) = h'.ser % 2) (hfit : fr + 2 ≤ nd) (r : Bool × Dk) (hr : r = wrAll [(fr + p, secH h')] D) (w : World) (hL0 : Has (LgB gl gd fr room h s false :: DskL gd gw gm D) w) :
    CA Tryd.prog 36 [.pointer (some ⟨gl, 0, none⟩), .slice b n cap, .agg (noteE h'.nt).toArray] w (Ret (fun _ : Unit => .int .i64 (erC r.1)) [gl, gd, gw, gm] (fun _ => LgB gl gd fr room (if r.1 then h' else h) (if r.1 then .slice b n cap else s) (!r.1) :: DskL gd gw gm r.2) (fun _ => True) w) := by
  subst hr
  unfold wrAll wrAll Dk.sy
  cases hp0 : D.pgone with
  | true => exact become_0 gl gd gw gm fr room h h' s D nd hok b n cap hn9 hser h1 h2 p hp hfit hp0 w hL0
  | false =>
    rw [if_neg (by simp)]
    dsimp only
    cases hp1 : (D.lit.put (fr + p) (secH h')).pgone with
    | true => exact become_1 gl gd gw gm fr room h h' s D nd hok b n cap hn9 hser h1 h2 p hp hfit hp0 hp1 w hL0
    | false => exact become_2 gl gd gw gm fr room h h' s D nd hok b n cap hn9 hser h1 h2 p hp hfit hp0 hp1 w hL0
end Go.Proofs.YtgmghkakiocmjaaDoor
namespace Go.Proofs.YtgmghkakiocmjaaDoor
open Go Go.RowKit
set_option linter.unusedVariables false
set_option linter.unusedSimpArgs false
theorem wrAll_OK {nd : Nat} : ∀ (l : List (Nat × (Nat → Int))) (D : Dk), (∀ e ∈ l, e.1 < nd) → D.OK nd → (wrAll l D).2.OK nd
  | [], D, _, h => by
    unfold wrAll Dk.sy
    split
    · exact h.dead
    · rename_i hp
      exact (h.lit (by simpa using hp)).still
  | e :: l, D, hl, h => by
    unfold wrAll
    split
    · exact h.dead
    · rename_i hp
      exact wrAll_OK l _ (fun e' he => hl e' (List.mem_cons_of_mem _ he)) ((h.lit (by simpa using hp)).put e.1 (hl e (List.mem_cons_self ..)) e.2)
theorem rmW_lt {fr : Nat} {xs : List Int} : ∀ (k q : Nat), ∀ e ∈ rmW fr xs k q, fr + (2 + q) ≤ e.1 ∧ e.1 < fr + (2 + q + k)
  | 0, _, e, h => by simp [rmW] at h
  | k + 1, q, e, h => by
    simp only [rmW, List.mem_cons] at h
    rcases h with rfl | h
    · dsimp only; omega
    · have := rmW_lt k (q + 1) e h; omega
abbrev LogL (gl gd gw gm fr room : Nat) (h : Hd) (b : Option Addr) (cap : Nat) (xs : List Int) (D : Dk) : List Chunk := .sl b cap 5 1 ((xs).map (Value.int .u8)) :: LgB gl gd fr room h (.slice b xs.length cap) false :: DskL gd gw gm D
theorem become_y (gl gd gw gm fr room : Nat) (h h' : Hd) (s : Value) (D : Dk) (nd : Nat) (hok : D.OK nd) (b : Option Addr) (n cap : Nat) (hn9 : n ≤ 2000000) (hser : 0 ≤ h.ser ∧ h.ser < 4611686018427387904) (h1 : h'.ser = h.ser + 1) (h2 : h'.cnt = n) (p : Nat) (hp : (p : Int) = h'.ser % 2) (hfit : fr + 2 ≤ nd) (r : Bool × Dk) (hr : r = wrAll [(fr + p, secH h')] D) (ht : r.1 = true) (w : World) (hL0 : Has (LgB gl gd fr room h s false :: DskL gd gw gm D) w) :
    CA Tryd.prog 36 [.pointer (some ⟨gl, 0, none⟩), .slice b n cap, .agg (noteE h'.nt).toArray] w (Ret (fun _ : Unit => .int .i64 0) [gl, gd, gw, gm] (fun _ => LgB gl gd fr room h' (.slice b n cap) false :: DskL gd gw gm r.2) (fun _ => True) w) := by
  have h9 := become_c gl gd gw gm fr room h h' s D nd hok b n cap hn9 hser h1 h2 p hp hfit r hr w hL0
  rw [ht] at h9
  exact h9
theorem erC_t : erC true = 0 := rfl
theorem has_app {A L : List Chunk} {w : World} (hL : Has L w) (hA : Has A w) (hap : ∀ g ∈ feet A, g ∉ feet L) : Has (L ++ A) w :=
  ⟨fun c hc => (List.mem_append.1 hc).elim (hL.ok c) (hA.ok c), by
    rw [feet_append]
    exact List.nodup_append.2 ⟨hL.apart, hA.apart, fun a1 h1 b1 h2 e => hap b1 h2 (e ▸ h1)⟩⟩
set_option maxRecDepth 100000 in
set_option maxHeartbeats 4000000 in
theorem append_0y {w : World} (gl gd gw gm fr room : Nat) (h h' : Hd) (b0 : Option Addr) (cap0 : Nat) (bs : List Int) (D : Dk) (nd : Nat) (hok : D.OK nd) (ho : OS (feet (LogL gl gd gw gm fr room h b0 cap0 bs D)) w.heap.size b0 cap0 bs.length) (hlr : bs.length ≤ room) (hroom : room ≤ 1100000) (hfit : fr + 2 + (room + 63) / 64 ≤ nd) (hser : 0 ≤ h.ser ∧ h.ser < 4611686018427387904) (p : Nat) (hp : (p : Int) = h'.ser % 2) (h1 : h'.ser = h.ser + 1) (h2 : h'.cnt = bs.length) (a : Option Addr) (cap : Nat) (r : Bool × Dk) (hre : r = wrAll [(fr + p, secH h')] D) (hrt : r.1 = true) (hL0 : Has (LogL gl gd gw gm fr room h b0 cap0 bs D) w) :
    CA Tryd.prog 14 [.pointer (some ⟨gl, 0, none⟩), .slice a 0 cap, .agg (noteE h'.nt).toArray] w (Ret (fun _ : Option Addr × Nat => .int .i64 0) (feet (LogL gl gd gw gm fr room h b0 cap0 bs D)) (fun z => LogL gl gd gw gm fr room h' z.1 z.2 bs r.2) (fun z => OS (feet (LogL gl gd gw gm fr room h b0 cap0 bs D)) w.heap.size z.1 z.2 bs.length) w) := by
  have hnd := hok.n9
  refine enter (L := (LogL gl gd gw gm fr room h b0 cap0 bs D)) (X := (feet (LogL gl gd gw gm fr room h b0 cap0 bs D))) Tryd.func14 rfl Tryd.ntmps14 rfl rfl hL0 ?_
  repeat (first | refine c_seq ?_ | (refine c_region (id := 0) ?_; refine se ?_; refine eb ?_; refine sq qa ?_; refine l_nil ?_) | (refine c_region (id := 1) ?_; refine sq qm ?_; refine se ?_; refine ecp rfl rfl (fun w hC hm hL => by exact ready_y gl gd fr room h (.slice b0 bs.length cap0) hser w (hL.sub (by (repeat (first | exact List.nil_sublist _ | exact List.Sublist.slnil | apply List.Sublist.cons_cons | exact List.Sublist.refl _ | apply List.Sublist.cons))))) ?_; intro m' hm'; refine sq qa ?_; refine l_nil ?_) | (refine c_region (id := 2) ?_; refine sq qm ?_; refine sq (by first | exact dneqt | exact dneqf) ?_; refine l_nil ?_) | (refine c_region (id := 4) ?_; refine sq qm ?_; refine sq qls ?_; refine sq qm ?_; refine se ?_; refine ecp rfl rfl (fun w hC hm hL => by exact room_c gl gd fr room h b0 bs.length cap0 false ⟨hlr, by omega⟩ w (hL.sub (by (repeat (first | exact List.nil_sublist _ | exact List.Sublist.slnil | apply List.Sublist.cons_cons | exact List.Sublist.refl _ | apply List.Sublist.cons))))) ?_; intro m' hm'; refine sq (by first | exact dgtrt | exact dgtrf) ?_; refine l_nil ?_) | (refine c_region (id := 6) ?_; refine sq qm ?_; refine sq qls ?_; refine sq (by first | exact deqlt | exact deqlf) ?_; refine l_nil ?_) | refine n_then ?_ | refine c_block ?_ | refine c_skip ?_ | refine n_block ?_ | refine c_exit ?_ | refine n_then_exit ?_ | refine n_block_eq ?_ | refine n_block_ne rfl ?_ | refine c_ret ?_ | refine n_then_ret ?_ | refine n_block_ret ?_ | refine c_cond_t rfl ?_ | refine c_cond_f rfl ?_ | refine r_succ ?_ )
  repeat (first | refine c_seq ?_ | (refine x_region (id := 7) (some 6) [(0, .n), (1, .n), (2, .n), (3, .n), (4, .q), (5, .q), (6, .b), (7, .n)] _ mixed (by kernel_rfl) (List.Sublist.refl _) ?_; refine xn rfl qm ?_; refine xn rfl qm ?_; refine xn rfl qn ?_; refine xn rfl qf ?_; refine xq rfl ql ?_; refine xq rfl (by exact qlb (hl := by rfl)) ?_; refine x_b rfl ?_; refine e_callX (LgB gl gd fr room h (.slice b0 bs.length cap0) false :: DskL gd gw gm D) _ rfl rfl (by kernel_rfl) rfl (by (repeat (first | exact Sp.nil | (apply Sp.cons; focus (repeat (first | exact Rm.here | apply Rm.there)))))) (fun w hC hm hA hL hap => by exact become_y gl gd gw gm fr room h h' (.slice b0 bs.length cap0) D nd hok b0 bs.length cap0 (by omega) hser h1 h2 p hp (by omega) r hre hrt w hA) (by intro g hg; exact .inl (by simp [feet, Chunk.foot] at hg ⊢; rcases hg with h | h | h | h <;> simp [h])) (fun _ => rfl) ?_; intro _ m5 _ _ hm5; refine x_k (List.nil_sublist _) ?_; refine xn rfl qa ?_; refine x_nil ?_) | refine n_then ?_ | refine c_block ?_ | refine c_skip ?_ | refine n_block ?_ | refine c_exit ?_ | refine n_then_exit ?_ | refine n_block_eq ?_ | refine n_block_ne rfl ?_ | refine c_ret ?_ | refine n_then_ret ?_ | refine n_block_ret ?_ | refine c_cond_t rfl ?_ | refine c_cond_f rfl ?_ | refine r_succ ?_ )
  refine fgs (A := LogL gl gd gw gm fr room h' b0 cap0 bs r.2) (by (repeat (first | exact Sp.nil | (apply Sp.cons; focus (repeat (first | exact Rm.here | apply Rm.there)))))) ?_
  (first | apply r_ret (b0, cap0) | apply r_end (b0, cap0)); exact rfl; exact rfl; exact (.tmp rfl .nil); exact rfl; exact (List.Sublist.refl _); exact (fun g hg => .inl hg); exact ho
set_option maxRecDepth 100000 in
set_option maxHeartbeats 4000000 in
theorem append_2y {w : World} (gl gd gw gm fr room : Nat) (h h' : Hd) (b0 : Option Addr) (cap0 : Nat) (bs : List Int) (D : Dk) (nd : Nat) (hok : D.OK nd) (ho : OS (feet (LogL gl gd gw gm fr room h b0 cap0 bs D)) w.heap.size b0 cap0 bs.length) (hlr : bs.length ≤ room) (hroom : room ≤ 1100000) (hfit : fr + 2 + (room + 63) / 64 ≤ nd) (hser : 0 ≤ h.ser ∧ h.ser < 4611686018427387904) (p : Nat) (hp : (p : Int) = h'.ser % 2) (h1 : h'.ser = h.ser + 1) (a : Option Addr) (len cap : Nat) (ys : List Int) (h2 : h'.cnt = (bs ++ ys).length) (hyl : ys.length = len) (hy0 : 0 < len) (hfr : bs.length + len ≤ room) (hys : SlE (Value.int .u8) w a ys) (hyx : ∀ g o, a = some ⟨g, o, none⟩ → g ∉ (feet (LogL gl gd gw gm fr room h b0 cap0 bs D))) (r1 : Bool × Dk) (hr1e : r1 = wrAll (rmW fr (bs ++ ys) (((bs ++ ys).length + 63) / 64 - bs.length / 64) (bs.length / 64)) D) (hr1 : r1.1 = true) (r2 : Bool × Dk) (hre : r2 = wrAll [(fr + p, secH h')] r1.2) (hrt : r2.1 = true) (hL0 : Has (LogL gl gd gw gm fr room h b0 cap0 bs D) w) :
    CA Tryd.prog 14 [.pointer (some ⟨gl, 0, none⟩), .slice a len cap, .agg (noteE h'.nt).toArray] w (Ret (fun _ : Option Addr × Nat => .int .i64 0) (feet (LogL gl gd gw gm fr room h b0 cap0 bs D)) (fun z => LogL gl gd gw gm fr room h' z.1 z.2 (bs ++ ys) r2.2) (fun z => OS (feet (LogL gl gd gw gm fr room h b0 cap0 bs D)) w.heap.size z.1 z.2 (bs ++ ys).length) w) := by
  have hnd := hok.n9
  have hbl : bs.length + len = (bs ++ ys).length := by simp [hyl]
  have hvw : ∀ (L : List Chunk), Vw (feet (LogL gl gd gw gm fr room h b0 cap0 bs D)) w L a (ys.map (Value.int .u8)) := fun L => by
    obtain ⟨g, o, rfl, hO⟩ := hys.get (i := 0) (by omega)
    exact .inr ⟨_, rfl, RdN.old hO (hyx g o rfl)⟩
  replace hvw := fun L => hvw L
  have hok1 : ∀ r1, r1 = wrAll (rmW fr (bs ++ ys) (((bs ++ ys).length + 63) / 64 - bs.length / 64) (bs.length / 64)) D → r1.2.OK nd := fun r1 e => by
    rw [e]
    exact wrAll_OK _ _ (fun e he => by have := rmW_lt _ _ e he; omega) hok
  refine enter (L := (LogL gl gd gw gm fr room h b0 cap0 bs D)) (X := (feet (LogL gl gd gw gm fr room h b0 cap0 bs D))) Tryd.func14 rfl Tryd.ntmps14 rfl rfl hL0 ?_
  repeat (first | refine c_seq ?_ | (refine c_region (id := 0) ?_; refine se ?_; refine eb ?_; refine sq qa ?_; refine l_nil ?_) | (refine c_region (id := 1) ?_; refine sq qm ?_; refine se ?_; refine ecp rfl rfl (fun w hC hm hL => by exact ready_y gl gd fr room h (.slice b0 bs.length cap0) hser w (hL.sub (by (repeat (first | exact List.nil_sublist _ | exact List.Sublist.slnil | apply List.Sublist.cons_cons | exact List.Sublist.refl _ | apply List.Sublist.cons))))) ?_; intro m' hm'; refine sq qa ?_; refine l_nil ?_) | (refine c_region (id := 2) ?_; refine sq qm ?_; refine sq (by first | exact dneqt | exact dneqf) ?_; refine l_nil ?_) | (refine c_region (id := 4) ?_; refine sq qm ?_; refine sq qls ?_; refine sq qm ?_; refine se ?_; refine ecp rfl rfl (fun w hC hm hL => by exact room_c gl gd fr room h b0 bs.length cap0 false ⟨hlr, by omega⟩ w (hL.sub (by (repeat (first | exact List.nil_sublist _ | exact List.Sublist.slnil | apply List.Sublist.cons_cons | exact List.Sublist.refl _ | apply List.Sublist.cons))))) ?_; intro m' hm'; refine sq (by first | exact dgtrt | exact dgtrf) ?_; refine l_nil ?_) | (refine c_region (id := 6) ?_; refine sq qm ?_; refine sq qls ?_; refine sq (by first | exact deqlt | exact deqlf) ?_; refine l_nil ?_) | (refine c_region (id := 8) ?_; refine sq qm ?_; refine sq qn ?_; refine sq qf ?_; refine sq ql ?_; refine sq qm ?_; refine se ?_; refine e_appE (Value.int .u8) bs ys rfl rfl rfl (by (repeat (first | exact Rm.here | apply Rm.there))) (hvw _) rfl hyl ho (allOne_u8L _) (by omega) (by omega) ?_; intro b2 cap2 m2 ho2 hm2; refine sq qa ?_; refine l_nil ?_) | refine n_then ?_ | refine c_block ?_ | refine c_skip ?_ | refine n_block ?_ | refine c_exit ?_ | refine n_then_exit ?_ | refine n_block_eq ?_ | refine n_block_ne rfl ?_ | refine c_ret ?_ | refine n_then_ret ?_ | refine n_block_ret ?_ | refine c_cond_t rfl ?_ | refine c_cond_f rfl ?_ | refine r_succ ?_ )
  rw [hbl] at ho2 ⊢
  repeat (first | refine c_seq ?_ | (refine c_region (id := 9) ?_; refine sq qm ?_; refine sq qm ?_; refine se ?_; refine e_callX (DskL gd gw gm D) _ rfl rfl (by kernel_rfl) rfl (by (repeat (first | exact Sp.nil | (apply Sp.cons; focus (repeat (first | exact Rm.here | apply Rm.there)))))) (fun w hC hm hA hL hap => by have h9 := wroom_c gl gd gw gm fr room h b0 bs.length cap0 false D nd hok b2 (bs ++ ys).length cap2 (bs ++ ys) rfl ho2.le (by omega) (by omega) (by omega) w (SlE.own hL (by (repeat (first | exact List.Mem.head _ | apply List.Mem.tail))) ho2) (apart_sl (by (repeat (first | exact List.Mem.head _ | apply List.Mem.tail))) hap) ((has_app hL hA hap).sub (by (repeat (first | exact List.nil_sublist _ | exact List.Sublist.slnil | apply List.Sublist.cons_cons | exact List.Sublist.refl _ | apply List.Sublist.cons)))); rw [← hr1e, hr1, erC_t] at h9; exact h9) (by intro g hg; exact .inl (by simp [feet, Chunk.foot] at hg ⊢; rcases hg with h | h | h <;> simp [h])) (fun _ => rfl) ?_; intro _ m5 _ _ hm5; refine sq qa ?_; refine l_nil ?_) | (refine c_region (id := 10) ?_; refine sq qm ?_; refine sq (by first | exact dneqt | exact dneqf) ?_; refine l_nil ?_) | (refine c_region (id := 12) ?_; refine sq qm ?_; refine sq qm ?_; refine sq (by exact qlb (hl := by rfl)) ?_; refine se ?_; refine e_callX (LgB gl gd fr room h (.slice b0 bs.length cap0) false :: DskL gd gw gm r1.2) _ rfl rfl (by kernel_rfl) rfl (by (repeat (first | exact Sp.nil | (apply Sp.cons; focus (repeat (first | exact Rm.here | apply Rm.there)))))) (fun w hC hm hA hL hap => by exact become_y gl gd gw gm fr room h h' (.slice b0 bs.length cap0) r1.2 nd (hok1 r1 hr1e) b2 (bs ++ ys).length cap2 (by omega) hser h1 h2 p hp (by omega) r2 hre hrt w hA) (by intro g hg; exact .inl (by simp [feet, Chunk.foot] at hg ⊢; rcases hg with h | h | h | h <;> simp [h])) (fun _ => rfl) ?_; intro _ m7 _ _ hm7; refine sq qa ?_; refine l_nil ?_) | refine n_then ?_ | refine c_block ?_ | refine c_skip ?_ | refine n_block ?_ | refine c_exit ?_ | refine n_then_exit ?_ | refine n_block_eq ?_ | refine n_block_ne rfl ?_ | refine c_ret ?_ | refine n_then_ret ?_ | refine n_block_ret ?_ | refine c_cond_t rfl ?_ | refine c_cond_f rfl ?_ | refine r_succ ?_ )
  refine fgs (A := LogL gl gd gw gm fr room h' b2 cap2 (bs ++ ys) r2.2) (by (repeat (first | exact Sp.nil | (apply Sp.cons; focus (repeat (first | exact Rm.here | apply Rm.there)))))) ?_
  (first | apply r_ret (b2, cap2) | apply r_end (b2, cap2)); exact rfl; exact rfl; exact (.tmp rfl .nil); exact rfl; exact (List.Sublist.refl _); exact (new_sl ho2.newc (by intro g hg; exact .inl (by simp [feet, Chunk.foot] at hg ⊢; rcases hg with h | h | h | h <;> simp [h]))); exact ho2
end Go.Proofs.YtgmghkakiocmjaaDoor
namespace Go.Proofs.YtgmghkakiocmjaaDoor
open Go Go.RowKit
set_option linter.unusedVariables false
set_option linter.unusedSimpArgs false
def appR (fr p : Nat) (h' : Hd) (bs ys : List Int) (D : Dk) : Bool × Dk := if ys = [] then wrAll [(fr + p, secH h')] D else if (wrAll (rmW fr (bs ++ ys) (((bs ++ ys).length + 63) / 64 - bs.length / 64) (bs.length / 64)) D).1 then wrAll [(fr + p, secH h')] (wrAll (rmW fr (bs ++ ys) (((bs ++ ys).length + 63) / 64 - bs.length / 64) (bs.length / 64)) D).2 else wrAll (rmW fr (bs ++ ys) (((bs ++ ys).length + 63) / 64 - bs.length / 64) (bs.length / 64)) D
abbrev BK (b : Option Addr) (cap n : Nat) : Prop := n ≤ cap ∧ cap ≤ 9223372036854775807 ∧ ((b = none ∧ n = 0) ∨ ∃ g, b = some ⟨g, 0, none⟩)
theorem ca_phi {α : Type} {P : Program} {f : FuncId} {vs : List Value} {w : World} {V : α → Value} {X : List Nat} {N : α → List Chunk} {Φ Ψ : α → Prop} (h : CA P f vs w (Ret V X N Φ w)) (hm : ∀ z, Φ z → Ψ z) : CA P f vs w (Ret V X N Ψ w) :=
  ⟨h.h.mono fun e w' ⟨z, h1, h2, h3, h4, h5⟩ => ⟨z, h1, h2, h3, h4, hm z h5⟩⟩
theorem append_y {w : World} (gl gd gw gm fr room : Nat) (h h' : Hd) (b0 : Option Addr) (cap0 : Nat) (bs : List Int) (D : Dk) (nd : Nat) (hok : D.OK nd) (ho : OS (feet (LogL gl gd gw gm fr room h b0 cap0 bs D)) w.heap.size b0 cap0 bs.length) (hlr : bs.length ≤ room) (hroom : room ≤ 1100000) (hfit : fr + 2 + (room + 63) / 64 ≤ nd) (hser : 0 ≤ h.ser ∧ h.ser < 4611686018427387904) (p : Nat) (hp : (p : Int) = h'.ser % 2) (h1 : h'.ser = h.ser + 1) (a : Option Addr) (len cap : Nat) (ys : List Int) (h2 : h'.cnt = (bs ++ ys).length) (hyl : ys.length = len) (hfr : bs.length + len ≤ room) (hys : SlE (Value.int .u8) w a ys) (hyx : ∀ g o, a = some ⟨g, o, none⟩ → 0 < len → g ∉ (feet (LogL gl gd gw gm fr room h b0 cap0 bs D))) (r : Bool × Dk) (hr : r = appR fr p h' bs ys D) (hrt : r.1 = true) (hL0 : Has (LogL gl gd gw gm fr room h b0 cap0 bs D) w) :
    CA Tryd.prog 14 [.pointer (some ⟨gl, 0, none⟩), .slice a len cap, .agg (noteE h'.nt).toArray] w (Ret (fun _ : Option Addr × Nat => .int .i64 0) (feet (LogL gl gd gw gm fr room h b0 cap0 bs D)) (fun z => LogL gl gd gw gm fr room h' z.1 z.2 (bs ++ ys) r.2) (fun z => BK z.1 z.2 (bs ++ ys).length) w) := by
  by_cases hy : ys = []
  · subst hy
    obtain rfl : len = 0 := by rw [← hyl]; rfl
    rw [List.append_nil] at h2 ⊢
    rw [appR, if_pos rfl] at hr
    exact ca_phi (append_0y gl gd gw gm fr room h h' b0 cap0 bs D nd hok ho hlr hroom hfit hser p hp h1 h2 a cap r hr hrt hL0) fun z hz => hz.ret
  · have hpos : 0 < len := by rw [← hyl]; exact List.length_pos_iff.2 hy
    rw [appR, if_neg hy] at hr
    obtain ⟨r1, hr1⟩ : ∃ r1, r1 = wrAll (rmW fr (bs ++ ys) (((bs ++ ys).length + 63) / 64 - bs.length / 64) (bs.length / 64)) D := ⟨_, rfl⟩
    rw [← hr1] at hr
    cases hb : r1.1 with
    | false => rw [hb] at hr; rw [hr, if_neg (by simp), hb] at hrt; cases hrt
    | true =>
      rw [hb, if_pos rfl] at hr
      exact ca_phi (append_2y gl gd gw gm fr room h h' b0 cap0 bs D nd hok ho hlr hroom hfit hser p hp h1 a len cap ys h2 hyl hpos hfr hys (fun g o e => hyx g o e hpos) r1 hr1 hb r hr hrt hL0) fun z hz => hz.ret
end Go.Proofs.YtgmghkakiocmjaaDoor
namespace Go.Proofs.YtgmghkakiocmjaaDoor
open Go Go.RowKit
set_option linter.unusedVariables false
set_option linter.unusedSimpArgs false
def Dk.at (D : Dk) (i : Nat) : Nat → Int := (D.secs[i]?).getD fun _ => 0
theorem Dk.at_get {D : Dk} {i : Nat} (h : i < D.secs.length) : D.secs[i]? = some (D.at i) := by
  simp [Dk.at, List.getElem?_eq_getElem h]
theorem put_secs (D : Dk) (i : Nat) (f : Nat → Int) : (D.put i f).secs = D.secs.set i f := by
  unfold Dk.put; split <;> rfl
theorem put_at (D : Dk) (i j : Nat) (f : Nat → Int) (h : i < D.secs.length) : (D.lit.put i f).at j = if j = i then f else D.at j := by
  unfold Dk.at
  rw [put_secs]
  show ((D.secs.set i f)[j]?).getD _ = _
  rw [List.getElem?_set]
  by_cases e : j = i
  · subst e; simp [h]
  · rw [if_neg (fun h => e h.symm), if_neg e]
structure Dk.Free (D : Dk) : Prop where
  fu : D.fused = false
  go : D.gone = false
theorem Dk.Free.pg {D : Dk} (h : D.Free) : D.pgone = false := by unfold Dk.pgone; rw [h.fu, h.go]; rfl
theorem Dk.Free.put {D : Dk} (h : D.Free) (i : Nat) (f : Nat → Int) : (D.lit.put i f).Free := ⟨by rw [put_fused]; exact h.fu, Dk.put_gone _ _ _⟩
theorem Dk.Free.still {D : Dk} (h : D.Free) : D.lit.still.Free := ⟨h.fu, rfl⟩
structure RG (D : Dk) : Prop where
  s : ∀ i, RB (D.at i)
  m : ∀ e ∈ D.M, RB e.2.1
theorem Dk.new_at (n i : Nat) : (Dk.new n).at i = fun _ => 0 := by
  unfold Dk.at Dk.new
  simp only [List.getElem?_replicate]
  split <;> rfl
theorem RG.new (n : Nat) : RG (Dk.new n) := ⟨fun i => by rw [Dk.new_at]; exact RB.zero, fun e he => by simp [Dk.new] at he⟩
theorem RG.put {D : Dk} (h : RG D) (i : Nat) (hi : i < D.secs.length) {f : Nat → Int} (hf : RB f) : RG (D.lit.put i f) := by
  refine ⟨fun j => ?_, fun e he => ?_⟩
  · rw [put_at _ _ _ _ hi]
    split
    · exact hf
    · exact h.s j
  · unfold Dk.put at he
    split at he
    · simp only [List.mem_append, List.mem_singleton] at he
      rcases he with he | rfl
      · exact h.m e he
      · exact h.s i
    · exact h.m e he
theorem RG.lit {D : Dk} (h : RG D) : RG D.lit := ⟨h.s, h.m⟩
theorem RG.still {D : Dk} (h : RG D) : RG D.lit.still := ⟨h.s, fun e he => by simp [Dk.still] at he⟩
theorem RG.dead {D : Dk} (h : RG D) : RG D.dead := ⟨h.s, h.m⟩
theorem put_slen (D : Dk) (i : Nat) (f : Nat → Int) : (D.lit.put i f).secs.length = D.secs.length := by rw [put_secs]; simp [Dk.lit]
structure WF (l : List (Nat × (Nat → Int))) (D : Dk) (r : Bool × Dk) : Prop where
  ok : r.1 = true
  free : r.2.Free
  m : r.2.M = []
  rg : RG r.2
  len : r.2.secs.length = D.secs.length
  cl : r.2.cl ≤ D.cl + l.length
theorem wrAll_free : ∀ (l : List (Nat × (Nat → Int))) (D : Dk), (∀ e ∈ l, e.1 < D.secs.length ∧ RB e.2) → D.Free → RG D → WF l D (wrAll l D)
  | [], D, _, h, hg => by
    unfold wrAll Dk.sy
    rw [if_neg (by simp [h.pg])]
    exact ⟨rfl, h.still, rfl, hg.still, rfl, Nat.le_refl _⟩
  | e :: l, D, hl, h, hg => by
    unfold wrAll
    rw [if_neg (by simp [h.pg])]
    obtain ⟨h1, h2⟩ := hl e (List.mem_cons_self ..)
    have h3 := wrAll_free l (D.lit.put e.1 e.2) (fun e' he => by rw [put_slen]; exact hl e' (List.mem_cons_of_mem _ he)) (h.put _ _) (hg.put _ h1 h2)
    refine ⟨h3.ok, h3.free, h3.m, h3.rg, by rw [h3.len, put_slen], ?_⟩
    have h4 := h3.cl
    have h5 := put_cl D.lit e.1 e.2
    have h6 : D.lit.cl = D.cl := rfl
    simp only [List.length_cons]
    omega
theorem wrRoom_at (fr : Nat) (xs : List Int) : ∀ (k q : Nat) (D : Dk), D.Free → fr + (2 + q + k) ≤ D.secs.length → ∀ j, (wrAll (rmW fr xs k q) D).2.at j = if fr + (2 + q) ≤ j ∧ j < fr + (2 + q + k) then secAt xs (j - fr - 2) else D.at j
  | 0, q, D, h, _, j => by
    unfold rmW wrAll Dk.sy
    rw [if_neg (by simp [h.pg]), if_neg (by omega)]
    rfl
  | k + 1, q, D, h, hl, j => by
    unfold rmW wrAll
    rw [if_neg (by simp [h.pg])]
    dsimp only
    rw [wrRoom_at fr xs k (q + 1) _ (h.put _ _) (by rw [put_slen]; omega) j, put_at _ _ _ _ (by omega)]
    by_cases e : j = fr + (2 + q)
    · subst e
      rw [if_neg (by omega), if_pos rfl, if_pos (by omega)]
      congr 1
      omega
    · rw [if_neg e]
      by_cases e2 : fr + (2 + (q + 1)) ≤ j ∧ j < fr + (2 + (q + 1) + k)
      · rw [if_pos e2, if_pos (by omega)]
      · rw [if_neg e2, if_neg (by omega)]
theorem wrHead_at (i : Nat) (f : Nat → Int) (D : Dk) (h : D.Free) (hi : i < D.secs.length) (j : Nat) : (wrAll [(i, f)] D).2.at j = if j = i then f else D.at j := by
  unfold wrAll wrAll Dk.sy
  rw [if_neg (by simp [h.pg])]
  dsimp only
  rw [if_neg (by simp [(h.put i f).pg])]
  exact put_at _ _ _ _ hi
theorem rmW_RB {fr : Nat} {xs : List Int} (hx : ∀ x ∈ xs, 0 ≤ x ∧ x ≤ 255) : ∀ (k q : Nat), ∀ e ∈ rmW fr xs k q, RB e.2
  | 0, _, e, h => by simp [rmW] at h
  | k + 1, q, e, h => by
    simp only [rmW, List.mem_cons] at h
    rcases h with rfl | h
    · exact secAt_RB hx q
    · exact rmW_RB hx k (q + 1) e h
theorem rmW_len {fr : Nat} {xs : List Int} : ∀ (k q : Nat), (rmW fr xs k q).length = k
  | 0, _ => rfl
  | k + 1, q => by rw [rmW, List.length_cons, rmW_len k]
structure LogAt (D : Dk) (fr kn : Nat) (h : Hd) (bs : List Int) : Prop where
  st : stI ((kn - 2) * 64) (fun i => D.at (fr + i)) 2 = h
  cnt : h.cnt = bs.length
  le : bs.length ≤ (kn - 2) * 64
  bytes : rmL (fun i => D.at (fr + i)) bs.length = bs
theorem stI_at {room : Nat} {Fs Gs : Nat → Nat → Int} (h0 : Fs 0 = Gs 0) (h1 : Fs 1 = Gs 1) : stI room Fs 2 = stI room Gs 2 := by
  show stepH room 1 (stepH room 0 hdZ (Fs 0)) (Fs 1) = stepH room 1 (stepH room 0 hdZ (Gs 0)) (Gs 1)
  rw [h0, h1]
theorem next_head {room : Nat} {Fs Gs : Nat → Nat → Int} {h h' : Hd} (hF : stI room Fs 2 = h) (hK : HdK h') (hs : h'.ser = h.ser + 1) (hs0 : 0 ≤ h.ser) (hc : h'.cnt ≤ room) (p : Nat) (hp : (p : Int) = h'.ser % 2) (hG : Gs p = secH h') (hO : Gs (1 - p) = Fs (1 - p)) : stI room Gs 2 = h' := by
  have hF : stepH room 1 (stepH room 0 hdZ (Fs 0)) (Fs 1) = h := hF
  show stepH room 1 (stepH room 0 hdZ (Gs 0)) (Gs 1) = h'
  have hz : hdZ.ser = 0 := rfl
  have hev : (stepH room 0 hdZ (Fs 0)).ser % 2 = 0 := by
    unfold stepH
    split
    · rename_i hu; exact hu.2.2.1
    · rfl
  obtain rfl | rfl : p = 0 ∨ p = 1 := by omega
  · have hG1 : Gs 1 = Fs 1 := hO
    have e1 : stepH room 0 hdZ (Gs 0) = h' := by
      rw [hG]
      unfold stepH
      rw [hdOf_secH hK, if_pos ⟨secH_S _, by rw [hdOf_secH hK]; exact hc, by rw [hdOf_secH hK]; omega, by rw [hdOf_secH hK, hz]; omega⟩]
    rw [e1, hG1]
    have hFo : hdOf (Fs 1) = h := by
      clear e1
      generalize stepH room 0 hdZ (Fs 0) = s1 at hF hev
      unfold stepH at hF
      split at hF
      · exact hF
      · exfalso
        rw [hF] at hev
        omega
    unfold stepH
    rw [if_neg (fun hu => by have h4 := hu.2.2.2; rw [hFo] at h4; omega)]
  · have hG0 : Gs 0 = Fs 0 := hO
    rw [hG0, hG]
    have hs1 : stepH room 0 hdZ (Fs 0) = h := by
      rw [stepH] at hF
      split at hF
      · rename_i hu
        have h3 := hu.2.2.1
        rw [hF] at h3
        omega
      · exact hF
    rw [hs1]
    unfold stepH
    rw [hdOf_secH hK, if_pos ⟨secH_S _, by rw [hdOf_secH hK]; exact hc, by rw [hdOf_secH hK]; omega, by rw [hdOf_secH hK]; omega⟩]
theorem rmL_ext {Fs : Nat → Nat → Int} {xs : List Int} (h : ∀ p (hp : p < xs.length), Fs (2 + p / 64) (p % 64) = xs[p]) : rmL Fs xs.length = xs := by
  apply List.ext_getElem
  · simp [rmL]
  · intro i h1 h2
    simp only [rmL, List.getElem_map, List.getElem_range]
    exact h i h2
theorem rmL_get {Fs : Nat → Nat → Int} {xs : List Int} (h : rmL Fs xs.length = xs) (p : Nat) (hp : p < xs.length) : Fs (2 + p / 64) (p % 64) = xs[p] := by
  have h1 : (rmL Fs xs.length)[p]? = xs[p]? := by rw [h]
  simpa [rmL, hp] using h1
theorem LogAt.append {D : Dk} {fr kn : Nat} {h h' : Hd} {bs ys : List Int} (hl : LogAt D fr kn h bs) (hfr : fr + kn ≤ D.secs.length) (hk : 3 ≤ kn) (hf : D.Free) (hg : RG D) (hK : HdK h') (hs : h'.ser = h.ser + 1) (hs0 : 0 ≤ h.ser) (hc : h'.cnt = (bs ++ ys).length) (hroom : (bs ++ ys).length ≤ (kn - 2) * 64) (hx : ∀ x ∈ bs ++ ys, 0 ≤ x ∧ x ≤ 255) (p : Nat) (hp : (p : Int) = h'.ser % 2) :
    (appR fr p h' bs ys D).1 = true ∧ LogAt (appR fr p h' bs ys D).2 fr kn h' (bs ++ ys) ∧ (appR fr p h' bs ys D).2.Free ∧ RG (appR fr p h' bs ys D).2 ∧ (appR fr p h' bs ys D).2.M = [] ∧ (appR fr p h' bs ys D).2.secs.length = D.secs.length ∧ (appR fr p h' bs ys D).2.cl ≤ D.cl + kn := by
  have hp2 : p < 2 := by omega
  have hbs := rmL_get hl.bytes
  have hsec := secH_RB hK
  have hst := hl.st
  have key : ∀ D2 : Dk, D2.Free → RG D2 → D2.secs.length = D.secs.length → (∀ j, j < fr + 2 → D2.at j = D.at j) → rmL (fun i => D2.at (fr + i)) (bs ++ ys).length = bs ++ ys → (wrAll [(fr + p, secH h')] D2).1 = true ∧ LogAt (wrAll [(fr + p, secH h')] D2).2 fr kn h' (bs ++ ys) ∧ (wrAll [(fr + p, secH h')] D2).2.Free ∧ RG (wrAll [(fr + p, secH h')] D2).2 ∧ (wrAll [(fr + p, secH h')] D2).2.M = [] ∧ (wrAll [(fr + p, secH h')] D2).2.secs.length = D.secs.length ∧ (wrAll [(fr + p, secH h')] D2).2.cl ≤ D2.cl + 1 := by
    intro D2 h1 h2 h3 h4 h5
    have hw := wrAll_free [(fr + p, secH h')] D2 (fun e he => by simp only [List.mem_singleton] at he; subst he; exact ⟨by dsimp only; omega, hsec⟩) h1 h2
    have hat := wrHead_at (fr + p) (secH h') D2 h1 (by omega)
    refine ⟨hw.ok, ⟨?_, hc, hroom, ?_⟩, hw.free, hw.rg, hw.m, by rw [hw.len, h3], hw.cl⟩
    · refine next_head hst hK hs hs0 (by rw [hc]; exact_mod_cast hroom) p hp ?_ ?_
      · try dsimp only
        rw [hat, if_pos rfl]
      · try dsimp only
        rw [hat, if_neg (by omega)]; exact h4 _ (by omega)
    · refine rmL_ext fun q hq => ?_
      try dsimp only
      rw [hat, if_neg (by omega)]
      exact rmL_get h5 q hq
  unfold appR
  by_cases hy : ys = []
  · subst hy
    rw [if_pos rfl]
    obtain ⟨k1, k2, k3, k4, k5, k6, k7⟩ := key D hf hg rfl (fun _ _ => rfl) (by rw [List.append_nil]; exact hl.bytes)
    exact ⟨k1, k2, k3, k4, k5, k6, by omega⟩
  · rw [if_neg hy]
    have hlen : (bs ++ ys).length = bs.length + ys.length := by simp
    have hw := wrAll_free (rmW fr (bs ++ ys) (((bs ++ ys).length + 63) / 64 - bs.length / 64) (bs.length / 64)) D (fun e he => ⟨by have := rmW_lt _ _ e he; omega, rmW_RB hx _ _ e he⟩) hf hg
    have hat := wrRoom_at fr (bs ++ ys) (((bs ++ ys).length + 63) / 64 - bs.length / 64) (bs.length / 64) D hf (by omega)
    have hcl := hw.cl
    rw [rmW_len] at hcl
    rw [if_pos hw.ok]
    obtain ⟨k1, k2, k3, k4, k5, k6, k7⟩ := key _ hw.free hw.rg hw.len (fun j hj => by rw [hat, if_neg (by omega)]) (rmL_ext fun q hq => by
      try dsimp only
      rw [hat]
      by_cases e : fr + (2 + bs.length / 64) ≤ fr + (2 + q / 64)
      · rw [if_pos (by omega)]
        have e1 : fr + (2 + q / 64) - fr - 2 = q / 64 := by omega
        rw [e1]
        have e2 : 64 * (q / 64) + q % 64 = q := by omega
        simp only [secAt]
        rw [if_pos (by omega), e2, List.getElem?_eq_getElem hq, Option.getD_some]
      · rw [if_neg (by omega)]
        have hq2 : q < bs.length := by omega
        rw [List.getElem_append_left hq2]
        exact hbs q hq2)
    exact ⟨k1, k2, k3, k4, k5, k6, by omega⟩
theorem hdOf_zero : hdOf (fun _ => 0) = hdZ := by
  unfold hdOf hdZ
  congr 1
  funext j
  exact ite_self _
theorem stI_zero (room : Nat) : stI room (fun _ _ => 0) 2 = hdZ := by
  have e0 : stepH room 0 hdZ (fun _ => 0) = hdZ := by
    unfold stepH
    rw [hdOf_zero, ite_self]
  show stepH room 1 (stepH room 0 hdZ (fun _ => 0)) (fun _ => 0) = hdZ
  rw [e0]
  unfold stepH
  rw [hdOf_zero, ite_self]
theorem LogAt.new (n fr kn : Nat) : LogAt (Dk.new n) fr kn hdZ [] := by
  refine ⟨?_, rfl, Nat.zero_le _, rfl⟩
  have : (fun i => (Dk.new n).at (fr + i)) = fun _ _ => 0 := by funext i; rw [Dk.new_at]
  rw [this]
  exact stI_zero _
end Go.Proofs.YtgmghkakiocmjaaDoor
namespace Go.Proofs.YtgmghkakiocmjaaDoor
open Go Go.RowKit
set_option linter.unusedVariables false
set_option linter.unusedSimpArgs false
def noteF (n : Int) (j : Nat) : Int := if j < 16 then n else 0
theorem noteF_K {n : Int} (hn : 0 ≤ n ∧ n ≤ 255) : RB (noteF n) := ⟨fun j => by unfold noteF; split <;> omega⟩
theorem noteF_hi (n : Int) : ∀ j, 16 ≤ j → noteF n j = 0 := fun j hj => if_neg (by omega)
theorem os_bk {b : Option Addr} {cap n : Nat} (h : BK b cap n) : OS (Chunk.sl b 0 0 1 []).foot 0 b cap n := ⟨h.1, h.2.1, h.2.2, fun g hg => .inl hg⟩
theorem os_log {gl gd gw gm fr room : Nat} {h : Hd} {b : Option Addr} {cap : Nat} {xs : List Int} {D : Dk} {k : Nat} (h1 : xs.length ≤ cap) (h2 : cap ≤ 9223372036854775807) (h3 : (b = none ∧ xs.length = 0) ∨ ∃ g, b = some ⟨g, 0, none⟩) : OS (feet (LogL gl gd gw gm fr room h b cap xs D)) k b cap xs.length :=
  ⟨h1, h2, h3, fun g hg => .inl (by
    simp only [feet, List.flatMap_cons]
    exact List.mem_append_left _ (by cases b <;> exact hg))⟩
end Go.Proofs.YtgmghkakiocmjaaDoor
namespace Go.Proofs.YtgmghkakiocmjaaDoor
open Go Go.RowKit
set_option linter.unusedVariables false
section
variable {P : Program} {T : List (Nat × Value)} {X : List Nat} {w0 : World} {L : List Chunk} {x y : Operand} {dst : Option Tmp} {ty t ty2 tx : TypeId} {pos : String} {af : Array Edge} {gu : Option (Nat × Bool)} {v : Value} {ds : TypeDesc} {ms : Array (String × TypeId)}
theorem eqIface_nn (hu : P.underlying t = some (.interface ms)) (w : World) : (Op.equal t .nilIface .nilIface).run P w = .ok true w := by
  have h : ∀ d : Nat, (Op.equalIn (d + 1) t .nilIface .nilIface).run P w = .ok true w := fun d => by simp [Op.equalIn, run_underlying hu]
  exact h 9999
theorem q_neq_nn [hu : UT P t (.interface ms)] (hx : ev T x = some .nilIface := by rfl) : Qt P X w0 ⟨dst, .binOp .neq t x (.const .nilIface) ty2, ty, pos, af, gu⟩ T L (.bool false) :=
  q_bin_val hx (show ev T (.const .nilIface) = some .nilIface from rfl) (fun w => by simp [eqGuard]) fun w => by rw [show binOp .neq t .nilIface .nilIface = (do pure (.bool (!(← Op.equal t .nilIface .nilIface)))) from rfl]; simp only [Sem.run_bind, eqIface_nn hu.h, Result.andThen_ok, Sem.run_pure, Bool.not_true]
end
end Go.Proofs.YtgmghkakiocmjaaDoor
namespace Go.Proofs.YtgmghkakiocmjaaDoor
open Go Go.RowKit
set_option linter.unusedVariables false
set_option linter.unusedSimpArgs false
section
variable {P : Program} {T : List (Nat × Value)} {X : List Nat} {w0 : World} {L : List Chunk} {x y : Operand} {dst : Option Tmp} {ty t ty2 : TypeId} {pos : String} {af : Array Edge} {gu : Option (Nat × Bool)}
theorem q_eql_nn {ms : Array (String × TypeId)} [hu : UT P t (.interface ms)] (hx : ev T x = some .nilIface) : Qt P X w0 ⟨dst, .binOp .eql t x (.const .nilIface) ty2, ty, pos, af, gu⟩ T L (.bool true) :=
  q_bin_val hx (show ev T (.const .nilIface) = some .nilIface from rfl) (fun w => by simp [eqGuard]) fun w => by rw [show binOp .eql t .nilIface .nilIface = (do pure (.bool (← Op.equal t .nilIface .nilIface))) from rfl]; simp only [Sem.run_bind, eqIface_nn hu.h, Result.andThen_ok, Sem.run_pure]
end
abbrev stC (at_ : Bool) (ga gb : Nat) : Array Value := match at_ with
  | false => #[.pointer (some ⟨ga, 0, none⟩), .pointer (some ⟨gb, 0, none⟩), .int .i64 0]
  | true => #[.pointer (some ⟨gb, 0, none⟩), .pointer (some ⟨ga, 0, none⟩), .int .i64 1]
def genH (h : Hd) : Int := numB h.nt 0 8
theorem note_nth (f : Nat → Int) (i : Nat) (hi : i < 8) : nth (noteE f) i = some (.int .u8 (f (0 + i))) := by
  match i, hi with
  | 0, _ => rfl
  | 1, _ => rfl
  | 2, _ => rfl
  | 3, _ => rfl
  | 4, _ => rfl
  | 5, _ => rfl
  | 6, _ => rfl
  | 7, _ => rfl
  | q + 8, h => exact absurd h (by omega)
set_option maxRecDepth 100000 in
set_option maxHeartbeats 4000000 in
theorem gener_c (gl gd fr room : Nat) (h : Hd) (hK : RB h.nt) (s : Value) (ov : Bool) (w : World) (hL0 : Has [LgB gl gd fr room h s ov] w) : CA Tryd.prog 22 [.pointer (some ⟨gl, 0, none⟩)] w (RV (.int .u64 (genH h)) w) := by
  refine enter (L := [LgB gl gd fr room h s ov]) (X := []) Tryd.func22 rfl Tryd.ntmps22 rfl rfl hL0 ?_
  repeat (first | refine c_seq ?_ | (refine c_region (id := 0) ?_; refine sq qa ?_; refine l_nil ?_) | (refine c_region (id := 1) ?_; refine sq qm ?_; refine se ?_; refine ecp rfl rfl (fun w hC hm hL => by exact note_c gl gd fr room h s ov w (hL.sub (by (repeat (first | exact List.nil_sublist _ | exact List.Sublist.slnil | apply List.Sublist.cons_cons | exact List.Sublist.refl _ | apply List.Sublist.cons))))) ?_; intro m1 hm1; refine se ?_; refine ea ?_; refine se ?_; refine esa ?_ (hk := by rfl) (ho := by rfl) (hoff := by rfl); refine l_nil ?_) | (refine c_region (id := 2) ?_; refine sq qa ?_; refine l_nil ?_) | (refine c_region (id := 3) ?_; refine sq qsa ?_; refine sq qls ?_; refine sq qm ?_; refine l_nil ?_) | refine n_then ?_ | refine c_block ?_ | refine c_skip ?_ | refine n_block ?_ | refine c_exit ?_ | refine n_then_exit ?_ | refine n_block_eq ?_ | refine n_block_ne rfl ?_ | refine c_ret ?_ | refine n_then_ret ?_ | refine n_block_ret ?_ | refine c_cond_t rfl ?_ | refine c_cond_f rfl ?_ | refine r_succ ?_ )
  refine c_loop (γ := Nat) (fun i => [(11, .int .i64 i), (9, .slice (some ⟨m1, 0, none⟩) 8 16), (10, .int .i64 (8 : Nat)), (4, .int .u64 (numB h.nt 0 i))]) (fun _ => m1 + 1) (fun _ => [.blk m1 (.cells (noteE h.nt).toArray 41 (0, 0))]) (fun i => i ≤ 8) (fun i => 8 - i) 0 (by simp) ⟨rfl, rfl, rfl, rfl, trivial⟩ rfl (by (repeat (first | exact List.nil_sublist _ | exact List.Sublist.slnil | apply List.Sublist.cons_cons | exact List.Sublist.refl _ | apply List.Sublist.cons))) ?_
  intro i hi
  by_cases h8 : i < 8
  · have hr := numB_rng hK 0 i
    have hp := pw256 i h8
    have hst := num_step (x := numB h.nt 0 i) (d := h.nt (0 + i)) ⟨hr.1, by omega⟩ (hK.h _)
    have hn := note_nth h.nt i h8
    repeat (first | refine c_seq ?_ | (refine c_region (id := 4) ?_; refine sq (by first | exact dlsst | exact dlssf) ?_; refine l_nil ?_) | (refine c_region (id := 5) ?_; refine sq (by exact qis (o' := i) (ho := by omega)) ?_; refine sq (by exact ql (hr := Rd.blkn (by (repeat (first | exact List.Mem.head _ | apply List.Mem.tail))) hn)) ?_; refine sq qa ?_; refine l_nil ?_) | (refine c_region (id := 6) ?_; refine sq qm ?_; refine sq qshlU ?_; refine sq qm ?_; refine sq qcU ?_; refine sq qor ?_; refine sq qa ?_; refine l_nil ?_) | (refine c_region (id := 7) ?_; refine sq qadd64 ?_; refine sq qm ?_; refine l_nil ?_) | refine n_then ?_ | refine c_block ?_ | refine c_skip ?_ | refine n_block ?_ | refine c_exit ?_ | refine n_then_exit ?_ | refine n_block_eq ?_ | refine n_block_ne rfl ?_ | refine c_ret ?_ | refine n_then_ret ?_ | refine n_block_ret ?_ | refine c_cond_t rfl ?_ | refine c_cond_f rfl ?_ | refine r_succ ?_ )
    refine c_round (i + 1) (by omega) (by omega) ⟨rfl, rfl, rfl, by rw [numB, ← hst]; rfl, trivial⟩ rfl (List.Sublist.refl _)
  · obtain rfl : i = 8 := by omega
    repeat (first | refine c_seq ?_ | (refine c_region (id := 4) ?_; refine sq (by first | exact dlsst | exact dlssf) ?_; refine l_nil ?_) | (refine c_region (id := 8) ?_; refine sq qm ?_; refine sq qa ?_; refine l_nil ?_) | refine n_then ?_ | refine c_block ?_ | refine c_skip ?_ | refine n_block ?_ | refine c_exit ?_ | refine n_then_exit ?_ | refine n_block_eq ?_ | refine n_block_ne rfl ?_ | refine c_ret ?_ | refine n_then_ret ?_ | refine n_block_ret ?_ | refine c_cond_t rfl ?_ | refine c_cond_f rfl ?_ | refine r_succ ?_ )
    (first | apply r_ret () | apply r_end ()); exact rfl; exact rfl; exact (.tmp rfl .nil); exact rfl; exact (List.nil_sublist _); exact new_nil; exact trivial
set_option maxRecDepth 100000 in
set_option maxHeartbeats 4000000 in
theorem either_0 (gs ga gb : Nat) (v : Value) (w : World) (hO : Old w gs 0 [.pointer (some ⟨ga, 0, none⟩), .pointer (some ⟨gb, 0, none⟩), v]) : CA Tryd.prog 46 [.pointer (some ⟨gs, 0, none⟩), .int .i64 0] w (RV (.pointer (some ⟨ga, 0, none⟩)) w) := by
  refine enter (L := []) (X := []) Tryd.func46 rfl Tryd.ntmps46 rfl rfl (Has.nil _) ?_
  repeat (first | refine c_seq ?_ | (refine c_region (id := 0) ?_; refine sq qa ?_; refine l_nil ?_) | (refine c_region (id := 1) ?_; refine sq qm ?_; refine sq qm ?_; refine sq qn ?_; refine sq qf ?_; refine sq qia ?_; refine sq (by exact ql (hr := Rd.oldn (j := 0) hO (by rfl) (by simp))) ?_; refine sq (by exact q_eql_pnil rfl rfl (by kernel_rfl)) ?_; refine l_nil ?_) | (refine c_region (id := 3) ?_; refine sq qm ?_; refine sq qm ?_; refine sq qn ?_; refine sq qf ?_; refine sq qia ?_; refine sq (by exact ql (hr := Rd.oldn (j := 0) hO (by rfl) (by simp))) ?_; refine sq qa ?_; refine l_nil ?_) | refine n_then ?_ | refine c_block ?_ | refine c_skip ?_ | refine n_block ?_ | refine c_exit ?_ | refine n_then_exit ?_ | refine n_block_eq ?_ | refine n_block_ne rfl ?_ | refine c_ret ?_ | refine n_then_ret ?_ | refine n_block_ret ?_ | refine c_cond_t rfl ?_ | refine c_cond_f rfl ?_ | refine r_succ ?_ )
  (first | apply r_ret () | apply r_end ()); exact rfl; exact rfl; exact (.tmp rfl .nil); exact rfl; exact (List.nil_sublist _); exact new_nil; exact trivial
set_option maxRecDepth 100000 in
set_option maxHeartbeats 4000000 in
theorem either_1 (gs ga gb : Nat) (v : Value) (w : World) (hO : Old w gs 0 [.pointer (some ⟨ga, 0, none⟩), .pointer (some ⟨gb, 0, none⟩), v]) : CA Tryd.prog 46 [.pointer (some ⟨gs, 0, none⟩), .int .i64 1] w (RV (.pointer (some ⟨gb, 0, none⟩)) w) := by
  refine enter (L := []) (X := []) Tryd.func46 rfl Tryd.ntmps46 rfl rfl (Has.nil _) ?_
  repeat (first | refine c_seq ?_ | (refine c_region (id := 0) ?_; refine sq qa ?_; refine l_nil ?_) | (refine c_region (id := 1) ?_; refine sq qm ?_; refine sq qm ?_; refine sq qn ?_; refine sq qf ?_; refine sq qia ?_; refine sq (by exact ql (hr := Rd.oldn (j := 1) hO (by rfl) (by simp))) ?_; refine sq (by exact q_eql_pnil rfl rfl (by kernel_rfl)) ?_; refine l_nil ?_) | (refine c_region (id := 3) ?_; refine sq qm ?_; refine sq qm ?_; refine sq qn ?_; refine sq qf ?_; refine sq qia ?_; refine sq (by exact ql (hr := Rd.oldn (j := 1) hO (by rfl) (by simp))) ?_; refine sq qa ?_; refine l_nil ?_) | refine n_then ?_ | refine c_block ?_ | refine c_skip ?_ | refine n_block ?_ | refine c_exit ?_ | refine n_then_exit ?_ | refine n_block_eq ?_ | refine n_block_ne rfl ?_ | refine c_ret ?_ | refine n_then_ret ?_ | refine n_block_ret ?_ | refine c_cond_t rfl ?_ | refine c_cond_f rfl ?_ | refine r_succ ?_ )
  (first | apply r_ret () | apply r_end ()); exact rfl; exact rfl; exact (.tmp rfl .nil); exact rfl; exact (List.nil_sublist _); exact new_nil; exact trivial
set_option maxRecDepth 100000 in
set_option maxHeartbeats 4000000 in
theorem slog_c (at_ : Bool) (gs ga gb : Nat) (w : World) (hO : Old w gs 0 (stC at_ ga gb).toList) : CA Tryd.prog 24 [.pointer (some ⟨gs, 0, none⟩)] w (RV (.pointer (some ⟨ga, 0, none⟩)) w) := by
  cases at_ with
  | false =>
    refine enter (L := []) (X := []) Tryd.func24 rfl Tryd.ntmps24 rfl rfl (Has.nil _) ?_
    repeat (first | refine c_seq ?_ | (refine c_region (id := 0) ?_; refine sq qa ?_; refine l_nil ?_) | (refine c_region (id := 1) ?_; refine sq qm ?_; refine sq qm ?_; refine sq qn ?_; refine sq qf ?_; refine sq (by exact ql (hr := Rd.oldn (j := 2) hO (by rfl) (by simp))) ?_; refine se ?_; refine ecp rfl rfl (fun w hC hm hL => by first | exact either_0 gs _ _ _ w (hO.ch hC (by simp)) | exact either_1 gs _ _ _ w (hO.ch hC (by simp))) ?_; intro m' hm'; refine sq qa ?_; refine l_nil ?_) | refine n_then ?_ | refine c_block ?_ | refine c_skip ?_ | refine n_block ?_ | refine c_exit ?_ | refine n_then_exit ?_ | refine n_block_eq ?_ | refine n_block_ne rfl ?_ | refine c_ret ?_ | refine n_then_ret ?_ | refine n_block_ret ?_ | refine c_cond_t rfl ?_ | refine c_cond_f rfl ?_ | refine r_succ ?_ )
    (first | apply r_ret () | apply r_end ()); exact rfl; exact rfl; exact (.tmp rfl .nil); exact rfl; exact (List.nil_sublist _); exact new_nil; exact trivial
  | true =>
    refine enter (L := []) (X := []) Tryd.func24 rfl Tryd.ntmps24 rfl rfl (Has.nil _) ?_
    repeat (first | refine c_seq ?_ | (refine c_region (id := 0) ?_; refine sq qa ?_; refine l_nil ?_) | (refine c_region (id := 1) ?_; refine sq qm ?_; refine sq qm ?_; refine sq qn ?_; refine sq qf ?_; refine sq (by exact ql (hr := Rd.oldn (j := 2) hO (by rfl) (by simp))) ?_; refine se ?_; refine ecp rfl rfl (fun w hC hm hL => by first | exact either_0 gs _ _ _ w (hO.ch hC (by simp)) | exact either_1 gs _ _ _ w (hO.ch hC (by simp))) ?_; intro m' hm'; refine sq qa ?_; refine l_nil ?_) | refine n_then ?_ | refine c_block ?_ | refine c_skip ?_ | refine n_block ?_ | refine c_exit ?_ | refine n_then_exit ?_ | refine n_block_eq ?_ | refine n_block_ne rfl ?_ | refine c_ret ?_ | refine n_then_ret ?_ | refine n_block_ret ?_ | refine c_cond_t rfl ?_ | refine c_cond_f rfl ?_ | refine r_succ ?_ )
    (first | apply r_ret () | apply r_end ()); exact rfl; exact rfl; exact (.tmp rfl .nil); exact rfl; exact (List.nil_sublist _); exact new_nil; exact trivial
set_option maxRecDepth 100000 in
set_option maxHeartbeats 4000000 in
theorem soth_c (at_ : Bool) (gs ga gb : Nat) (w : World) (hO : Old w gs 0 (stC at_ ga gb).toList) : CA Tryd.prog 60 [.pointer (some ⟨gs, 0, none⟩)] w (RV (.pointer (some ⟨gb, 0, none⟩)) w) := by
  cases at_ with
  | false =>
    refine enter (L := []) (X := []) Tryd.func60 rfl Tryd.ntmps60 rfl rfl (Has.nil _) ?_
    repeat (first | refine c_seq ?_ | (refine c_region (id := 0) ?_; refine sq qa ?_; refine l_nil ?_) | (refine c_region (id := 1) ?_; refine sq qm ?_; refine sq qm ?_; refine sq qn ?_; refine sq qf ?_; refine sq (by exact ql (hr := Rd.oldn (j := 2) hO (by rfl) (by simp))) ?_; refine sq qsub64 ?_; refine se ?_; refine ecp rfl rfl (fun w hC hm hL => by first | exact either_0 gs _ _ _ w (hO.ch hC (by simp)) | exact either_1 gs _ _ _ w (hO.ch hC (by simp))) ?_; intro m' hm'; refine sq qa ?_; refine l_nil ?_) | refine n_then ?_ | refine c_block ?_ | refine c_skip ?_ | refine n_block ?_ | refine c_exit ?_ | refine n_then_exit ?_ | refine n_block_eq ?_ | refine n_block_ne rfl ?_ | refine c_ret ?_ | refine n_then_ret ?_ | refine n_block_ret ?_ | refine c_cond_t rfl ?_ | refine c_cond_f rfl ?_ | refine r_succ ?_ )
    (first | apply r_ret () | apply r_end ()); exact rfl; exact rfl; exact (.tmp rfl .nil); exact rfl; exact (List.nil_sublist _); exact new_nil; exact trivial
  | true =>
    refine enter (L := []) (X := []) Tryd.func60 rfl Tryd.ntmps60 rfl rfl (Has.nil _) ?_
    repeat (first | refine c_seq ?_ | (refine c_region (id := 0) ?_; refine sq qa ?_; refine l_nil ?_) | (refine c_region (id := 1) ?_; refine sq qm ?_; refine sq qm ?_; refine sq qn ?_; refine sq qf ?_; refine sq (by exact ql (hr := Rd.oldn (j := 2) hO (by rfl) (by simp))) ?_; refine sq qsub64 ?_; refine se ?_; refine ecp rfl rfl (fun w hC hm hL => by first | exact either_0 gs _ _ _ w (hO.ch hC (by simp)) | exact either_1 gs _ _ _ w (hO.ch hC (by simp))) ?_; intro m' hm'; refine sq qa ?_; refine l_nil ?_) | refine n_then ?_ | refine c_block ?_ | refine c_skip ?_ | refine n_block ?_ | refine c_exit ?_ | refine n_then_exit ?_ | refine n_block_eq ?_ | refine n_block_ne rfl ?_ | refine c_ret ?_ | refine n_then_ret ?_ | refine n_block_ret ?_ | refine c_cond_t rfl ?_ | refine c_cond_f rfl ?_ | refine r_succ ?_ )
    (first | apply r_ret () | apply r_end ()); exact rfl; exact rfl; exact (.tmp rfl .nil); exact rfl; exact (List.nil_sublist _); exact new_nil; exact trivial
set_option maxRecDepth 100000 in
set_option maxHeartbeats 4000000 in
theorem failed_ok (d : Value) (w : World) : CA Tryd.prog 20 [d, .int .i64 0] w (RV .nilIface w) := by
  refine enter (L := []) (X := []) Tryd.func20 rfl Tryd.ntmps20 rfl rfl (Has.nil _) ?_
  repeat (first | refine c_seq ?_ | (refine c_region (id := 0) ?_; refine sq qa ?_; refine l_nil ?_) | (refine c_region (id := 1) ?_; refine sq qm ?_; refine l_nil ?_) | (refine c_region (id := 2) ?_; refine sq (by first | exact deqlt | exact deqlf) ?_; refine sq qa ?_; refine l_nil ?_) | (refine c_region (id := 3) ?_; refine sq qa ?_; refine l_nil ?_) | refine n_then ?_ | refine c_block ?_ | refine c_skip ?_ | refine n_block ?_ | refine c_exit ?_ | refine n_then_exit ?_ | refine n_block_eq ?_ | refine n_block_ne rfl ?_ | refine c_ret ?_ | refine n_then_ret ?_ | refine n_block_ret ?_ | refine c_cond_t rfl ?_ | refine c_cond_f rfl ?_ | refine r_succ ?_ )
  (first | apply r_ret () | apply r_end ()); exact rfl; exact rfl; exact (.tmp rfl .nil); exact rfl; exact (List.nil_sublist _); exact new_nil; exact trivial
set_option maxRecDepth 100000 in
set_option maxHeartbeats 4000000 in
theorem told_ok (w : World) : CA Tryd.prog 21 [.nilIface] w (RV (.int .i64 0) w) := by
  refine enter (L := []) (X := []) Tryd.func21 rfl Tryd.ntmps21 rfl rfl (Has.nil _) ?_
  repeat (first | refine c_seq ?_ | (refine c_region (id := 0) ?_; refine sq qa ?_; refine l_nil ?_) | (refine c_region (id := 1) ?_; refine sq qm ?_; refine sq (by exact q_eql_nn rfl) ?_; refine sq qa ?_; refine l_nil ?_) | (refine c_region (id := 2) ?_; refine sq qa ?_; refine l_nil ?_) | refine n_then ?_ | refine c_block ?_ | refine c_skip ?_ | refine n_block ?_ | refine c_exit ?_ | refine n_then_exit ?_ | refine n_block_eq ?_ | refine n_block_ne rfl ?_ | refine c_ret ?_ | refine n_then_ret ?_ | refine n_block_ret ?_ | refine c_cond_t rfl ?_ | refine c_cond_f rfl ?_ | refine r_succ ?_ )
  (first | apply r_ret () | apply r_end ()); exact rfl; exact rfl; exact (.tmp rfl .nil); exact rfl; exact (List.nil_sublist _); exact new_nil; exact trivial
end Go.Proofs.YtgmghkakiocmjaaDoor
namespace Go.Proofs.YtgmghkakiocmjaaDoor
open Go Go.RowKit
set_option linter.unusedVariables false
set_option linter.unusedSimpArgs false
theorem bk_new {X : List Nat} {k : Nat} {b : Option Addr} {cap n c2 sz : Nat} {e : TypeId} {xs : List Value} (h : BK b cap n) (hn : ∀ g, b = some ⟨g, 0, none⟩ → k ≤ g) : ∀ g ∈ (Chunk.sl b c2 e sz xs).foot, g ∈ X ∨ k ≤ g := by
  intro g hg
  rcases h.2.2 with ⟨e9, _⟩ | ⟨g9, e9⟩
  · rw [e9] at hg; simp [Chunk.foot] at hg
  · rw [e9] at hg; simp [Chunk.foot] at hg; rw [hg]; exact .inr (hn g9 e9)
abbrev StL (gs : Nat) (at_ : Bool) (ga : Nat) (ba : Option Addr) (ca : Nat) (ha : Hd) (bsa : List Int) (fra : Nat) (gb : Nat) (bb : Option Addr) (cb : Nat) (hb : Hd) (bsb : List Int) (frb room gd : Nat) : List Chunk :=
  [.blk gs (.cells (stC at_ ga gb) 55 (0, 0)), .sl ba ca 5 1 ((bsa).map (Value.int .u8)), LgB ga gd fra room ha (.slice ba bsa.length ca) false, .sl bb cb 5 1 ((bsb).map (Value.int .u8)), LgB gb gd frb room hb (.slice bb bsb.length cb) false]
set_option maxRecDepth 100000 in
set_option maxHeartbeats 4000000 in
theorem sopen_0 (gd gw gm : Nat) (D : Dk) (hgo : D.gone = false) (hn6 : D.secs.length ≤ 16384) (hrg : RG D) (n6 : 6 ≤ D.secs.length) (half : Nat) (hhf : half = D.secs.length / 2) (h0 h1 : Hd) (bs0 bs1 : List Int) (hl0 : LogAt D 0 half h0 bs0) (hl1 : LogAt D half half h1 bs1) (hk0 : HdK h0) (hk1 : HdK h1) (hge : ¬ genH h0 < genH h1) (w : World) (hD : Has (DskL gd gw gm D) w) :
    CA Tryd.prog 8 [.pointer (some ⟨gd, 0, none⟩)] w (Ret (fun z : Nat × (Nat × Option Addr × Nat) × (Nat × Option Addr × Nat) => .tuple #[.pointer (some ⟨z.1, 0, none⟩), .int .i64 0]) [] (fun z => StL z.1 false z.2.1.1 z.2.1.2.1 z.2.1.2.2 h0 bs0 0 z.2.2.1 z.2.2.2.1 z.2.2.2.2 h1 bs1 half ((half - 2) * 64) gd) (fun z => BK z.2.1.2.1 z.2.1.2.2 bs0.length ∧ BK z.2.2.2.1 z.2.2.2.2 bs1.length) w) := by
  refine enter (L := DskL gd gw gm D) (X := []) Tryd.func8 rfl Tryd.ntmps8 rfl rfl hD ?_
  repeat (first | refine c_seq ?_ | (refine c_region (id := 0) ?_; refine sq qa ?_; refine sq qa ?_; refine l_nil ?_) | (refine c_region (id := 1) ?_; refine sq qm ?_; refine se ?_; refine ecp rfl rfl (fun w hC hm hL => by exact sect_c gd gw gm D w (hL.sub (by (repeat (first | exact List.nil_sublist _ | exact List.Sublist.slnil | apply List.Sublist.cons_cons | exact List.Sublist.refl _ | apply List.Sublist.cons))))) ?_; intro m' hm'; refine sq (by first | exact dlsst | exact dlssf) ?_; refine l_nil ?_) | refine n_then ?_ | refine c_block ?_ | refine c_skip ?_ | refine n_block ?_ | refine c_exit ?_ | refine n_then_exit ?_ | refine n_block_eq ?_ | refine n_block_ne rfl ?_ | refine c_ret ?_ | refine n_then_ret ?_ | refine n_block_ret ?_ | refine c_cond_t rfl ?_ | refine c_cond_f rfl ?_ | refine r_succ ?_ )
  repeat (first | refine c_seq ?_ | (refine c_region (id := 3) ?_; refine sq qbs ?_; refine se ?_; refine eb ?_; refine sq qa ?_; refine l_nil ?_) | refine n_then ?_ | refine c_block ?_ | refine c_skip ?_ | refine n_block ?_ | refine c_exit ?_ | refine n_then_exit ?_ | refine n_block_eq ?_ | refine n_block_ne rfl ?_ | refine c_ret ?_ | refine n_then_ret ?_ | refine n_block_ret ?_ | refine c_cond_t rfl ?_ | refine c_cond_f rfl ?_ | refine r_succ ?_ )
  obtain ⟨mb, hmb⟩ : ∃ mb, mb = m' := ⟨_, rfl⟩
  rw [← hmb]
  repeat (first | refine c_rounds 3 ?_ | refine c_seq ?_ | (refine c_region (id := 4) ?_; refine sq qm ?_; refine se ?_; refine ecp rfl rfl (fun w hC hm hL => by exact sect_c gd gw gm D w (hL.sub (by (repeat (first | exact List.nil_sublist _ | exact List.Sublist.slnil | apply List.Sublist.cons_cons | exact List.Sublist.refl _ | apply List.Sublist.cons))))) ?_; intro m' hm'; refine sq (by exact Qt.cast (v' := .int .i64 ((half : Nat) : Int)) (congrArg (Value.int .i64) (by omega)) (q_quo rfl rfl (by omega) (by omega) (by first | rfl | (simp only [IntKind.wrap_i64]; omega)))) ?_; refine sq qa ?_; refine l_nil ?_) | (refine c_region (id := 5) ?_; refine sq qm ?_; refine l_nil ?_) | (refine c_region (id := 6) ?_; refine sq (by first | exact dlsst | exact dlssf) ?_; refine l_nil ?_) | (refine c_region (id := 7) ?_; refine sq qm ?_; refine sq qa ?_; refine l_nil ?_) | (refine c_region (id := 8) ?_; refine sq qm ?_; refine sq qm ?_; refine sq qm ?_; refine sq (by first | exact Qt.cast (v' := .int .i64 ((0 : Nat) : Int)) (congrArg (Value.int .i64) (by omega)) (q_mul64 rfl rfl ⟨by omega, by omega⟩ rfl) | exact Qt.cast (v' := .int .i64 ((half : Nat) : Int)) (congrArg (Value.int .i64) (by omega)) (q_mul64 rfl rfl ⟨by omega, by omega⟩ rfl)) ?_; refine sq qm ?_; refine se ?_; (first | (refine ecl rfl rfl (fun w hC hm hL => by exact open_c gd gw gm 0 half ⟨by omega, by omega⟩ (fun i => D.at (0 + i)) D hgo hn6 (by omega) (fun i hi => Dk.at_get (by omega)) (fun i _ => hrg.s _) bs0.length (by rw [hl0.st]; exact hl0.cnt) w (hL.sub (by (repeat (first | exact List.nil_sublist _ | exact List.Sublist.slnil | apply List.Sublist.cons_cons | exact List.Sublist.refl _ | apply List.Sublist.cons))))) ?_; intro z2 m2 hz2 hn2 hm2; obtain ⟨gl2, bl2, cl2⟩ := z2; have hq2 : w.heap.size ≤ gl2 := (by have := hn2 gl2 (by simp [feet, Chunk.foot]); omega); have hb2 : ∀ g, bl2 = some ⟨g, 0, none⟩ → w.heap.size ≤ g := (fun g e => by have := hn2 g (by simp [feet, Chunk.foot, e]); omega); dsimp only at hz2 ⊢; rw [hl0.st, hl0.bytes]) | (refine ecl rfl rfl (fun w hC hm hL => by exact open_c gd gw gm half half ⟨by omega, by omega⟩ (fun i => D.at (half + i)) D hgo hn6 (by omega) (fun i hi => Dk.at_get (by omega)) (fun i _ => hrg.s _) bs1.length (by rw [hl1.st]; exact hl1.cnt) w (hL.sub (by (repeat (first | exact List.nil_sublist _ | exact List.Sublist.slnil | apply List.Sublist.cons_cons | exact List.Sublist.refl _ | apply List.Sublist.cons))))) ?_; intro z5 m5 hz5 hn5 hm5; obtain ⟨gl5, bl5, cl5⟩ := z5; have hq5 : w.heap.size ≤ gl5 := (by have := hn5 gl5 (by simp [feet, Chunk.foot]); omega); have hb5 : ∀ g, bl5 = some ⟨g, 0, none⟩ → w.heap.size ≤ g := (fun g e => by have := hn5 g (by simp [feet, Chunk.foot, e]); omega); dsimp only at hz5 ⊢; rw [hl1.st, hl1.bytes])); refine sq qm ?_; refine sq qe ?_; refine sq qe ?_; refine sq qa ?_; refine sq qa ?_; refine l_nil ?_) | (refine c_region (id := 9) ?_; refine sq qm ?_; refine se ?_; refine ecp rfl rfl (fun w hC hm hL => by exact failed_ok _ w) ?_; intro m' hm'; refine sq qa ?_; refine l_nil ?_) | (refine c_region (id := 10) ?_; refine sq qm ?_; refine sq (by exact q_neq_nn (hx := rfl)) ?_; refine l_nil ?_) | (refine c_region (id := 12) ?_; refine sq qm ?_; refine sq qm ?_; refine sq qm ?_; refine sq qn ?_; refine sq qf ?_; refine sq qia ?_; refine se ?_; refine es1 ?_ (hg := .inr (by omega)); refine l_nil ?_) | (refine c_region (id := 13) ?_; refine sq qadd64 ?_; refine sq qm ?_; refine l_nil ?_) | refine n_then ?_ | refine c_block ?_ | refine c_skip ?_ | refine n_block ?_ | refine c_exit ?_ | refine n_then_exit ?_ | refine n_block_eq ?_ | refine n_block_ne rfl ?_ | refine c_ret ?_ | refine n_then_ret ?_ | refine n_block_ret ?_ | refine c_cond_t rfl ?_ | refine c_cond_f rfl ?_ | refine r_succ ?_ )
  repeat (first | refine c_seq ?_ | (refine x_region (id := 14) none [(0, .n), (1, .n), (2, .n), (3, .n), (4, .q), (6, .n), (7, .n), (8, .n), (9, .n), (10, .q), (5, .e), (11, .e), (12, .n)] _ mixed (by kernel_rfl) (List.Sublist.refl _) ?_; refine xn rfl qm ?_; refine xn rfl qn ?_; refine xn rfl qf ?_; refine xn rfl qia ?_; refine xq rfl ql ?_; refine xn rfl qm ?_; refine xn rfl qn ?_; refine xn rfl qf ?_; refine xn rfl qia ?_; refine xq rfl ql ?_; refine x_e rfl ?_; refine ecp rfl rfl (fun w hC hm hL => by first | exact gener_c gl5 gd half ((half - 2) * 64) h1 hk1.nt _ false w (hL.sub (by (repeat (first | exact List.nil_sublist _ | exact List.Sublist.slnil | apply List.Sublist.cons_cons | exact List.Sublist.refl _ | apply List.Sublist.cons)))) | exact gener_c gl2 gd 0 ((half - 2) * 64) h0 hk0.nt _ false w (hL.sub (by (repeat (first | exact List.nil_sublist _ | exact List.Sublist.slnil | apply List.Sublist.cons_cons | exact List.Sublist.refl _ | apply List.Sublist.cons))))) ?_; intro m' hm'; refine xk ?_; refine x_e rfl ?_; refine ecp rfl rfl (fun w hC hm hL => by first | exact gener_c gl5 gd half ((half - 2) * 64) h1 hk1.nt _ false w (hL.sub (by (repeat (first | exact List.nil_sublist _ | exact List.Sublist.slnil | apply List.Sublist.cons_cons | exact List.Sublist.refl _ | apply List.Sublist.cons)))) | exact gener_c gl2 gd 0 ((half - 2) * 64) h0 hk0.nt _ false w (hL.sub (by (repeat (first | exact List.nil_sublist _ | exact List.Sublist.slnil | apply List.Sublist.cons_cons | exact List.Sublist.refl _ | apply List.Sublist.cons))))) ?_; intro m' hm'; refine xk ?_; refine xn rfl (by first | exact dgtrt | exact dgtrf) ?_; refine x_nil ?_) | (refine c_region (id := 16) ?_; refine sq qm ?_; refine sq qa ?_; refine sq qa ?_; refine l_nil ?_) | refine n_then ?_ | refine c_block ?_ | refine c_skip ?_ | refine n_block ?_ | refine c_exit ?_ | refine n_then_exit ?_ | refine n_block_eq ?_ | refine n_block_ne rfl ?_ | refine c_ret ?_ | refine n_then_ret ?_ | refine n_block_ret ?_ | refine c_cond_t rfl ?_ | refine c_cond_f rfl ?_ | refine r_succ ?_ )
  refine fgs (A := StL mb false gl2 bl2 cl2 h0 bs0 0 gl5 bl5 cl5 h1 bs1 half ((half - 2) * 64) gd) (by (repeat (first | exact Sp.nil | (apply Sp.cons; focus (repeat (first | exact Rm.here | apply Rm.there)))))) ?_
  (first | apply r_ret (mb, (gl2, bl2, cl2), (gl5, bl5, cl5)) | apply r_end (mb, (gl2, bl2, cl2), (gl5, bl5, cl5))); exact rfl; exact rfl; exact (.tmp rfl (.tmp rfl .nil)); exact rfl; exact (List.Sublist.refl _); exact (new_blk (.inr (by omega)) (new_sl (bk_new hz2 hb2) (new_blk (.inr hq2) (new_sl (bk_new hz5 hb5) (new_blk (.inr hq5) new_nil))))); exact ⟨by assumption, by assumption⟩
set_option maxRecDepth 100000 in
set_option maxHeartbeats 4000000 in
theorem sopen_1 (gd gw gm : Nat) (D : Dk) (hgo : D.gone = false) (hn6 : D.secs.length ≤ 16384) (hrg : RG D) (n6 : 6 ≤ D.secs.length) (half : Nat) (hhf : half = D.secs.length / 2) (h0 h1 : Hd) (bs0 bs1 : List Int) (hl0 : LogAt D 0 half h0 bs0) (hl1 : LogAt D half half h1 bs1) (hk0 : HdK h0) (hk1 : HdK h1) (hge : genH h0 < genH h1) (w : World) (hD : Has (DskL gd gw gm D) w) :
    CA Tryd.prog 8 [.pointer (some ⟨gd, 0, none⟩)] w (Ret (fun z : Nat × (Nat × Option Addr × Nat) × (Nat × Option Addr × Nat) => .tuple #[.pointer (some ⟨z.1, 0, none⟩), .int .i64 0]) [] (fun z => StL z.1 true z.2.1.1 z.2.1.2.1 z.2.1.2.2 h1 bs1 half z.2.2.1 z.2.2.2.1 z.2.2.2.2 h0 bs0 0 ((half - 2) * 64) gd) (fun z => BK z.2.1.2.1 z.2.1.2.2 bs1.length ∧ BK z.2.2.2.1 z.2.2.2.2 bs0.length) w) := by
  refine enter (L := DskL gd gw gm D) (X := []) Tryd.func8 rfl Tryd.ntmps8 rfl rfl hD ?_
  repeat (first | refine c_seq ?_ | (refine c_region (id := 0) ?_; refine sq qa ?_; refine sq qa ?_; refine l_nil ?_) | (refine c_region (id := 1) ?_; refine sq qm ?_; refine se ?_; refine ecp rfl rfl (fun w hC hm hL => by exact sect_c gd gw gm D w (hL.sub (by (repeat (first | exact List.nil_sublist _ | exact List.Sublist.slnil | apply List.Sublist.cons_cons | exact List.Sublist.refl _ | apply List.Sublist.cons))))) ?_; intro m' hm'; refine sq (by first | exact dlsst | exact dlssf) ?_; refine l_nil ?_) | refine n_then ?_ | refine c_block ?_ | refine c_skip ?_ | refine n_block ?_ | refine c_exit ?_ | refine n_then_exit ?_ | refine n_block_eq ?_ | refine n_block_ne rfl ?_ | refine c_ret ?_ | refine n_then_ret ?_ | refine n_block_ret ?_ | refine c_cond_t rfl ?_ | refine c_cond_f rfl ?_ | refine r_succ ?_ )
  repeat (first | refine c_seq ?_ | (refine c_region (id := 3) ?_; refine sq qbs ?_; refine se ?_; refine eb ?_; refine sq qa ?_; refine l_nil ?_) | refine n_then ?_ | refine c_block ?_ | refine c_skip ?_ | refine n_block ?_ | refine c_exit ?_ | refine n_then_exit ?_ | refine n_block_eq ?_ | refine n_block_ne rfl ?_ | refine c_ret ?_ | refine n_then_ret ?_ | refine n_block_ret ?_ | refine c_cond_t rfl ?_ | refine c_cond_f rfl ?_ | refine r_succ ?_ )
  obtain ⟨mb, hmb⟩ : ∃ mb, mb = m' := ⟨_, rfl⟩
  rw [← hmb]
  repeat (first | refine c_rounds 3 ?_ | refine c_seq ?_ | (refine c_region (id := 4) ?_; refine sq qm ?_; refine se ?_; refine ecp rfl rfl (fun w hC hm hL => by exact sect_c gd gw gm D w (hL.sub (by (repeat (first | exact List.nil_sublist _ | exact List.Sublist.slnil | apply List.Sublist.cons_cons | exact List.Sublist.refl _ | apply List.Sublist.cons))))) ?_; intro m' hm'; refine sq (by exact Qt.cast (v' := .int .i64 ((half : Nat) : Int)) (congrArg (Value.int .i64) (by omega)) (q_quo rfl rfl (by omega) (by omega) (by first | rfl | (simp only [IntKind.wrap_i64]; omega)))) ?_; refine sq qa ?_; refine l_nil ?_) | (refine c_region (id := 5) ?_; refine sq qm ?_; refine l_nil ?_) | (refine c_region (id := 6) ?_; refine sq (by first | exact dlsst | exact dlssf) ?_; refine l_nil ?_) | (refine c_region (id := 7) ?_; refine sq qm ?_; refine sq qa ?_; refine l_nil ?_) | (refine c_region (id := 8) ?_; refine sq qm ?_; refine sq qm ?_; refine sq qm ?_; refine sq (by first | exact Qt.cast (v' := .int .i64 ((0 : Nat) : Int)) (congrArg (Value.int .i64) (by omega)) (q_mul64 rfl rfl ⟨by omega, by omega⟩ rfl) | exact Qt.cast (v' := .int .i64 ((half : Nat) : Int)) (congrArg (Value.int .i64) (by omega)) (q_mul64 rfl rfl ⟨by omega, by omega⟩ rfl)) ?_; refine sq qm ?_; refine se ?_; (first | (refine ecl rfl rfl (fun w hC hm hL => by exact open_c gd gw gm 0 half ⟨by omega, by omega⟩ (fun i => D.at (0 + i)) D hgo hn6 (by omega) (fun i hi => Dk.at_get (by omega)) (fun i _ => hrg.s _) bs0.length (by rw [hl0.st]; exact hl0.cnt) w (hL.sub (by (repeat (first | exact List.nil_sublist _ | exact List.Sublist.slnil | apply List.Sublist.cons_cons | exact List.Sublist.refl _ | apply List.Sublist.cons))))) ?_; intro z2 m2 hz2 hn2 hm2; obtain ⟨gl2, bl2, cl2⟩ := z2; have hq2 : w.heap.size ≤ gl2 := (by have := hn2 gl2 (by simp [feet, Chunk.foot]); omega); have hb2 : ∀ g, bl2 = some ⟨g, 0, none⟩ → w.heap.size ≤ g := (fun g e => by have := hn2 g (by simp [feet, Chunk.foot, e]); omega); dsimp only at hz2 ⊢; rw [hl0.st, hl0.bytes]) | (refine ecl rfl rfl (fun w hC hm hL => by exact open_c gd gw gm half half ⟨by omega, by omega⟩ (fun i => D.at (half + i)) D hgo hn6 (by omega) (fun i hi => Dk.at_get (by omega)) (fun i _ => hrg.s _) bs1.length (by rw [hl1.st]; exact hl1.cnt) w (hL.sub (by (repeat (first | exact List.nil_sublist _ | exact List.Sublist.slnil | apply List.Sublist.cons_cons | exact List.Sublist.refl _ | apply List.Sublist.cons))))) ?_; intro z5 m5 hz5 hn5 hm5; obtain ⟨gl5, bl5, cl5⟩ := z5; have hq5 : w.heap.size ≤ gl5 := (by have := hn5 gl5 (by simp [feet, Chunk.foot]); omega); have hb5 : ∀ g, bl5 = some ⟨g, 0, none⟩ → w.heap.size ≤ g := (fun g e => by have := hn5 g (by simp [feet, Chunk.foot, e]); omega); dsimp only at hz5 ⊢; rw [hl1.st, hl1.bytes])); refine sq qm ?_; refine sq qe ?_; refine sq qe ?_; refine sq qa ?_; refine sq qa ?_; refine l_nil ?_) | (refine c_region (id := 9) ?_; refine sq qm ?_; refine se ?_; refine ecp rfl rfl (fun w hC hm hL => by exact failed_ok _ w) ?_; intro m' hm'; refine sq qa ?_; refine l_nil ?_) | (refine c_region (id := 10) ?_; refine sq qm ?_; refine sq (by exact q_neq_nn (hx := rfl)) ?_; refine l_nil ?_) | (refine c_region (id := 12) ?_; refine sq qm ?_; refine sq qm ?_; refine sq qm ?_; refine sq qn ?_; refine sq qf ?_; refine sq qia ?_; refine se ?_; refine es1 ?_ (hg := .inr (by omega)); refine l_nil ?_) | (refine c_region (id := 13) ?_; refine sq qadd64 ?_; refine sq qm ?_; refine l_nil ?_) | refine n_then ?_ | refine c_block ?_ | refine c_skip ?_ | refine n_block ?_ | refine c_exit ?_ | refine n_then_exit ?_ | refine n_block_eq ?_ | refine n_block_ne rfl ?_ | refine c_ret ?_ | refine n_then_ret ?_ | refine n_block_ret ?_ | refine c_cond_t rfl ?_ | refine c_cond_f rfl ?_ | refine r_succ ?_ )
  repeat (first | refine c_seq ?_ | (refine x_region (id := 14) none [(0, .n), (1, .n), (2, .n), (3, .n), (4, .q), (6, .n), (7, .n), (8, .n), (9, .n), (10, .q), (5, .e), (11, .e), (12, .n)] _ mixed (by kernel_rfl) (List.Sublist.refl _) ?_; refine xn rfl qm ?_; refine xn rfl qn ?_; refine xn rfl qf ?_; refine xn rfl qia ?_; refine xq rfl ql ?_; refine xn rfl qm ?_; refine xn rfl qn ?_; refine xn rfl qf ?_; refine xn rfl qia ?_; refine xq rfl ql ?_; refine x_e rfl ?_; refine ecp rfl rfl (fun w hC hm hL => by first | exact gener_c gl5 gd half ((half - 2) * 64) h1 hk1.nt _ false w (hL.sub (by (repeat (first | exact List.nil_sublist _ | exact List.Sublist.slnil | apply List.Sublist.cons_cons | exact List.Sublist.refl _ | apply List.Sublist.cons)))) | exact gener_c gl2 gd 0 ((half - 2) * 64) h0 hk0.nt _ false w (hL.sub (by (repeat (first | exact List.nil_sublist _ | exact List.Sublist.slnil | apply List.Sublist.cons_cons | exact List.Sublist.refl _ | apply List.Sublist.cons))))) ?_; intro m' hm'; refine xk ?_; refine x_e rfl ?_; refine ecp rfl rfl (fun w hC hm hL => by first | exact gener_c gl5 gd half ((half - 2) * 64) h1 hk1.nt _ false w (hL.sub (by (repeat (first | exact List.nil_sublist _ | exact List.Sublist.slnil | apply List.Sublist.cons_cons | exact List.Sublist.refl _ | apply List.Sublist.cons)))) | exact gener_c gl2 gd 0 ((half - 2) * 64) h0 hk0.nt _ false w (hL.sub (by (repeat (first | exact List.nil_sublist _ | exact List.Sublist.slnil | apply List.Sublist.cons_cons | exact List.Sublist.refl _ | apply List.Sublist.cons))))) ?_; intro m' hm'; refine xk ?_; refine xn rfl (by first | exact dgtrt | exact dgtrf) ?_; refine x_nil ?_) | (refine c_region (id := 15) ?_; refine sq qm ?_; refine sq qn ?_; refine sq qf ?_; refine se ?_; refine es1 ?_ (hg := .inr (by omega)); refine l_nil ?_) | (refine c_region (id := 16) ?_; refine sq qm ?_; refine sq qa ?_; refine sq qa ?_; refine l_nil ?_) | refine n_then ?_ | refine c_block ?_ | refine c_skip ?_ | refine n_block ?_ | refine c_exit ?_ | refine n_then_exit ?_ | refine n_block_eq ?_ | refine n_block_ne rfl ?_ | refine c_ret ?_ | refine n_then_ret ?_ | refine n_block_ret ?_ | refine c_cond_t rfl ?_ | refine c_cond_f rfl ?_ | refine r_succ ?_ )
  refine fgs (A := StL mb true gl5 bl5 cl5 h1 bs1 half gl2 bl2 cl2 h0 bs0 0 ((half - 2) * 64) gd) (by (repeat (first | exact Sp.nil | (apply Sp.cons; focus (repeat (first | exact Rm.here | apply Rm.there)))))) ?_
  (first | apply r_ret (mb, (gl5, bl5, cl5), (gl2, bl2, cl2)) | apply r_end (mb, (gl5, bl5, cl5), (gl2, bl2, cl2))); exact rfl; exact rfl; exact (.tmp rfl (.tmp rfl .nil)); exact rfl; exact (List.Sublist.refl _); exact (new_blk (.inr (by omega)) (new_sl (bk_new hz5 hb5) (new_blk (.inr hq5) (new_sl (bk_new hz2 hb2) (new_blk (.inr hq2) new_nil))))); exact ⟨by assumption, by assumption⟩
end Go.Proofs.YtgmghkakiocmjaaDoor
namespace Go.Proofs.YtgmghkakiocmjaaDoor
open Go Go.RowKit
set_option linter.unusedVariables false
set_option linter.unusedSimpArgs false
structure CPrt where
  a : Option Addr
  len : Nat
  cap : Nat
  xs : List Int
def CPrt.v (p : CPrt) : Value := .slice p.a p.len p.cap
structure CPrt.Ok (w : World) (p : CPrt) : Prop where
  s : SlE (Value.int .u8) w p.a p.xs
  l : p.xs.length = p.len
  c : p.len ≤ p.cap
  r : ∀ x ∈ p.xs, 0 ≤ x ∧ x ≤ 255
theorem CPrt.Ok.lt {w : World} {p : CPrt} (h : p.Ok w) : ∀ g o, p.a = some ⟨g, o, none⟩ → 0 < p.len → g < w.heap.size := fun g o e hl => h.s.lt g o e (by rw [h.l]; exact hl)
def joined (ps : List CPrt) : List Int := ps.flatMap (·.xs)
theorem joined_succ {ps : List CPrt} {i : Nat} {p : CPrt} (h : ps[i]? = some p) : joined (ps.take (i + 1)) = joined (ps.take i) ++ p.xs := by
  unfold joined
  rw [List.take_add_one, h]
  simp
theorem appR_OK {fr p nd : Nat} {h' : Hd} {bs ys : List Int} {D : Dk} (hok : D.OK nd) (hp : p < 2) (h : fr + 2 + ((bs ++ ys).length + 63) / 64 ≤ nd) : (appR fr p h' bs ys D).2.OK nd := by
  have key : ∀ D2 : Dk, D2.OK nd → (wrAll [(fr + p, secH h')] D2).2.OK nd := fun D2 h2 => wrAll_OK _ _ (fun e he => by simp only [List.mem_singleton] at he; subst he; dsimp only; omega) h2
  have hw : (wrAll (rmW fr (bs ++ ys) (((bs ++ ys).length + 63) / 64 - bs.length / 64) (bs.length / 64)) D).2.OK nd := wrAll_OK _ _ (fun e he => by have h1 := rmW_lt _ _ e he; have h2 : (bs ++ ys).length = bs.length + ys.length := List.length_append; omega) hok
  unfold appR
  split
  · exact key D hok
  · split
    · exact key _ hw
    · exact hw
structure GJ (n : Int) (ps : List CPrt) (i : Nat) (D : Dk) (h : Hd) : Prop where
  ok : D.OK 40
  fre : D.Free
  rg : RG D
  lat : LogAt D 2 30 h (joined (ps.take i))
  K : HdK h
  ser : h.ser = i
  nt : ∀ k : Nat, i = k + 1 → h.nt = noteF ((n + (k : Int) % 256) % 256)
  len : (joined (ps.take i)).length ≤ 60 * i
  rng : ∀ x ∈ (joined (ps.take i)), 0 ≤ x ∧ x ≤ 255
theorem GJ.zero (n : Int) (ps : List CPrt) : GJ n ps 0 (Dk.new 40) hdZ :=
  ⟨Dk.OK.new 40 (by decide), ⟨rfl, rfl⟩, RG.new 40, LogAt.new 40 2 30, hdZ_K, rfl, fun k h => by omega, by simp [joined], by simp [joined]⟩
theorem GJ.next {n : Int} {ps : List CPrt} {i : Nat} {D : Dk} {h : Hd} (hJ : GJ n ps i D h) (hi : i < 20) {p : CPrt} (hp : ps[i]? = some p) (hl : p.xs.length ≤ 60) (hr : ∀ x ∈ p.xs, 0 ≤ x ∧ x ≤ 255) (pp : Nat) (h1 : Hd) (hh1 : h1 = ⟨(i : Int) + 1, ((joined (ps.take i)) ++ p.xs).length, noteF ((n + (i : Int) % 256) % 256)⟩) (hpp : (pp : Int) = h1.ser % 2) : (appR 2 pp h1 (joined (ps.take i)) p.xs D).1 = true ∧ GJ n ps (i + 1) (appR 2 pp h1 (joined (ps.take i)) p.xs D).2 h1 := by
  have hlen := hJ.len
  have hser := hJ.ser
  have hal : ((joined (ps.take i)) ++ p.xs).length = (joined (ps.take i)).length + p.xs.length := List.length_append
  have hK : HdK h1 := by
    rw [hh1]
    exact ⟨⟨by dsimp only; omega, by dsimp only; omega⟩, ⟨by dsimp only; omega, by dsimp only; omega⟩, noteF_K ⟨by omega, by omega⟩, noteF_hi _⟩
  have hrr : ∀ x ∈ (joined (ps.take i)) ++ p.xs, 0 ≤ x ∧ x ≤ 255 := fun x hx => (List.mem_append.1 hx).elim (hJ.rng x) (hr x)
  obtain ⟨k1, k2, k3, k4, k5, k6, k7⟩ := hJ.lat.append (h' := h1) (ys := p.xs) (by rw [hJ.ok.len]; decide) (by omega) hJ.fre hJ.rg hK (by rw [hh1]; dsimp only; omega) (by omega) (by rw [hh1]) (by omega) hrr pp hpp
  have hnx : ∀ k : Nat, i + 1 = k + 1 → h1.nt = noteF ((n + (k : Int) % 256) % 256) := fun k hk => by
    have e : i = k := by omega
    subst e
    rw [hh1]
  refine ⟨k1, appR_OK hJ.ok (by omega) (by omega), k3, k4, by rw [joined_succ hp]; exact k2, hK, by rw [hh1]; dsimp only; omega, fun k hk => hnx k hk, by rw [joined_succ hp, hal]; omega, by rw [joined_succ hp]; exact hrr⟩
end Go.Proofs.YtgmghkakiocmjaaDoor
namespace Go.Proofs.YtgmghkakiocmjaaDoor
open Go Go.RowKit
set_option linter.unusedVariables false
set_option linter.unusedSimpArgs false
def rOk (room p : Nat) (F : Nat → Int) : Prop := hdS F ∧ (hdOf F).ser % 2 = p ∧ (hdOf F).cnt ≤ room
instance (room p : Nat) (F : Nat → Int) : Decidable (rOk room p F) := by unfold rOk; infer_instance
end Go.Proofs.YtgmghkakiocmjaaDoor
namespace Go.Proofs.YtgmghkakiocmjaaDoor
open Go Go.RowKit
set_option linter.unusedVariables false
set_option linter.unusedSimpArgs false
structure SecP (Fs : Nat → Nat → Int) (ps : List CPrt) : Prop where
  h : ∀ i p, ps[i]? = some p → p.xs = secL (Fs i) 64 ∧ p.len = 64 ∧ 64 ≤ p.cap ∧ p.cap ≤ 9223372036854775807 ∧ ∃ g o, p.a = some ⟨g, o, none⟩
def secC (ps : List CPrt) : List Chunk := ps.map fun p => .sl p.a p.cap 5 1 (p.xs.map (Value.int .u8))
theorem secC_succ (ps : List CPrt) (p : CPrt) : secC (ps ++ [p]) = secC ps ++ [.sl p.a p.cap 5 1 (p.xs.map (Value.int .u8))] := by simp [secC]
theorem SecP.take {Fs : Nat → Nat → Int} {ps : List CPrt} (h : SecP Fs ps) (n : Nat) : SecP Fs (ps.take n) := ⟨fun i p hp => by
  rw [List.getElem?_take] at hp
  split at hp
  · exact h.h i p hp
  · cases hp⟩
end Go.Proofs.YtgmghkakiocmjaaDoor
namespace Go.Proofs.YtgmghkakiocmjaaDoor
open Go Go.RowKit
set_option linter.unusedVariables false
set_option linter.unusedSimpArgs false
set_option maxRecDepth 100000 in
set_option maxHeartbeats 4000000 in
theorem bclone_c (a : Option Addr) (len cap : Nat) (xs : List Int) (hxl : xs.length = len) (hbig : len ≤ 100000000) (w : World) (hs : SlE (Value.int .u8) w a xs) :
    CA Tryd.prog 47 [.slice a len cap] w (RLe (Value.int .u8) 5 (fun zs => zs = xs) w) := by
  rcases a with _ | p
  · have hx0 : xs = [] := by
      rcases hs.h with h9 | ⟨g, o, e, _⟩
      · exact h9
      · cases e
    refine enter (L := []) (X := []) Tryd.func47 rfl Tryd.ntmps47 rfl rfl (Has.nil _) ?_
    repeat (first | refine c_seq ?_ | (refine c_region (id := 0) ?_; refine sq qa ?_; refine l_nil ?_) | (refine c_region (id := 1) ?_; refine sq qm ?_; refine sq (by exact q_eql_nil rfl rfl) ?_; refine l_nil ?_) | (refine c_region (id := 2) ?_; refine sq qa ?_; refine l_nil ?_) | refine n_then ?_ | refine c_block ?_ | refine c_skip ?_ | refine n_block ?_ | refine c_exit ?_ | refine n_then_exit ?_ | refine n_block_eq ?_ | refine n_block_ne rfl ?_ | refine c_ret ?_ | refine n_then_ret ?_ | refine n_block_ret ?_ | refine c_cond_t rfl ?_ | refine c_cond_f rfl ?_ | refine r_succ ?_ )
    refine add_nil 5 1 ?_
    (first | apply r_ret (none, 0, []) | apply r_end (none, 0, [])); exact rfl; exact rfl; exact (.tmp rfl .nil); exact rfl; exact (by exact (by (repeat (first | exact List.nil_sublist _ | exact List.Sublist.slnil | apply List.Sublist.cons_cons | exact List.Sublist.refl _ | apply List.Sublist.cons)))); exact (new_sl (OS.nil [] w.heap.size).newc new_nil); exact ⟨by simp, hx0.symm⟩
  · refine enter (L := []) (X := []) Tryd.func47 rfl Tryd.ntmps47 rfl rfl (Has.nil _) ?_
    repeat (first | refine c_seq ?_ | (refine c_region (id := 0) ?_; refine sq qa ?_; refine l_nil ?_) | (refine c_region (id := 1) ?_; refine sq qm ?_; refine sq (by exact q_eql_nil rfl rfl) ?_; refine l_nil ?_) | (refine c_region (id := 3) ?_; refine se ?_; refine e_buildSlice0 rfl ?_; refine sq qm ?_; refine se ?_; refine e_appL (Value.int .u8) [] xs rfl rfl rfl (by (repeat (first | exact Rm.here | apply Rm.there))) hs.rdN rfl hxl ⟨Nat.le_refl _, by omega, .inr ⟨_, rfl⟩, by simp [Chunk.foot]⟩ (allOne_u8c _) (by omega) (by omega) ?_; intro b1 cap1 m1 ho1 hm1; refine sq qa ?_; refine l_nil ?_) | refine n_then ?_ | refine c_block ?_ | refine c_skip ?_ | refine n_block ?_ | refine c_exit ?_ | refine n_then_exit ?_ | refine n_block_eq ?_ | refine n_block_ne rfl ?_ | refine c_ret ?_ | refine n_then_ret ?_ | refine n_block_ret ?_ | refine c_cond_t rfl ?_ | refine c_cond_f rfl ?_ | refine r_succ ?_ )
    rw [Nat.zero_add, ← hxl] at ho1 ⊢
    (first | apply r_ret (b1, cap1, xs) | apply r_end (b1, cap1, xs)); exact rfl; exact rfl; exact (.tmp rfl .nil); exact rfl; exact (by exact (by (repeat (first | exact List.nil_sublist _ | exact List.Sublist.slnil | apply List.Sublist.cons_cons | exact List.Sublist.refl _ | apply List.Sublist.cons)))); exact (new_sl ho1.newc new_nil); exact ⟨by have h9 := ho1.ret; exact h9, rfl⟩
end Go.Proofs.YtgmghkakiocmjaaDoor
namespace Go.Proofs.YtgmghkakiocmjaaDoor
open Go Go.RowKit
set_option linter.unusedVariables false
set_option linter.unusedSimpArgs false
structure Prt where
  a : Option Addr
  len : Nat
  cap : Nat
  xs : List Int
def Prt.v (p : Prt) : Value := .slice p.a p.len p.cap
structure Prt.Ok (w : World) (p : Prt) : Prop where
  s : SlE (Value.int .u8) w p.a p.xs
  l : p.xs.length = p.len
  c : p.len ≤ p.cap
  r : ∀ x ∈ p.xs, 0 ≤ x ∧ x ≤ 255
theorem Prt.Ok.ch {w w' : World} {p : Prt} (h : p.Ok w) (hC : Ch [] w w') : p.Ok w' := ⟨h.s.ch0 hC, h.l, h.c, h.r⟩
set_option maxRecDepth 100000 in
set_option maxHeartbeats 4000000 in
theorem grow0_c (k : Nat) (hk : k ≤ 100000000) (w : World) :
    CA Tryd.prog 70 [.slice none 0 0, .int .i64 (k : Int)] w (RLe (Value.int .u8) 5 (fun zs => zs = []) w) := by
  by_cases h0 : 0 < k
  · refine enter (L := []) (X := []) Tryd.func70 rfl Tryd.ntmps70 rfl rfl (Has.nil _) ?_
    repeat (first | refine c_seq ?_ | (refine c_region (id := 0) ?_; refine sq qa ?_; refine l_nil ?_) | (refine c_region (id := 1) ?_; refine sq qm ?_; refine sq (by first | exact dlsst | exact dlssf) ?_; refine l_nil ?_) | (refine c_region (id := 3) ?_; refine sq qm ?_; refine sq qm ?_; refine sq (by exact q_cap_sl rfl) ?_; refine sq qm ?_; refine sq qls ?_; refine sq qsub64 ?_; refine sq (by exact Qt.cast (v' := .int .i64 ((k : Nat) : Int)) (congrArg (Value.int .i64) (by omega)) (q_sub64 rfl rfl ⟨by omega, by omega⟩ rfl)) ?_; refine sq qa ?_; refine l_nil ?_) | (refine c_region (id := 4) ?_; refine sq qm ?_; refine sq (by first | exact dgtrt | exact dgtrf) ?_; refine l_nil ?_) | refine n_then ?_ | refine c_block ?_ | refine c_skip ?_ | refine n_block ?_ | refine c_exit ?_ | refine n_then_exit ?_ | refine n_block_eq ?_ | refine n_block_ne rfl ?_ | refine c_ret ?_ | refine n_then_ret ?_ | refine n_block_ret ?_ | refine c_cond_t rfl ?_ | refine c_cond_f rfl ?_ | refine r_succ ?_ )
    repeat (first | refine c_seq ?_ | (refine c_region (id := 5) ?_; refine sq qm ?_; refine sq qm ?_; refine sq (by exact q_cap_sl rfl) ?_; refine sq qs ?_; refine sq qm ?_; refine se ?_; refine e_appZ rfl rfl rfl h0 (by omega) (by omega) ?_; intro cap1 hc1 hc2; refine sq qm ?_; refine sq qls ?_; refine sq qs ?_; refine sq qa ?_; refine l_nil ?_) | (refine c_region (id := 6) ?_; refine sq qm ?_; refine sq qa ?_; refine l_nil ?_) | refine n_then ?_ | refine c_block ?_ | refine c_skip ?_ | refine n_block ?_ | refine c_exit ?_ | refine n_then_exit ?_ | refine n_block_eq ?_ | refine n_block_ne rfl ?_ | refine c_ret ?_ | refine n_then_ret ?_ | refine n_block_ret ?_ | refine c_cond_t rfl ?_ | refine c_cond_f rfl ?_ | refine r_succ ?_ )
    (first | apply r_ret (some ⟨w.heap.size, 0, none⟩, cap1, []) | apply r_end (some ⟨w.heap.size, 0, none⟩, cap1, [])); exact rfl; exact rfl; exact (.tmp rfl .nil); exact (by simp [vval]); exact (by exact (by (repeat (first | exact List.nil_sublist _ | exact List.Sublist.slnil | apply List.Sublist.cons_cons | exact List.Sublist.refl _ | apply List.Sublist.cons)))); exact (new_sl (by simp [Chunk.foot]) new_nil); exact ⟨⟨by simp, hc2, .inr ⟨_, rfl⟩⟩, rfl⟩
  · obtain rfl : k = 0 := by omega
    refine enter (L := []) (X := []) Tryd.func70 rfl Tryd.ntmps70 rfl rfl (Has.nil _) ?_
    repeat (first | refine c_seq ?_ | (refine c_region (id := 0) ?_; refine sq qa ?_; refine l_nil ?_) | (refine c_region (id := 1) ?_; refine sq qm ?_; refine sq (by first | exact dlsst | exact dlssf) ?_; refine l_nil ?_) | (refine c_region (id := 3) ?_; refine sq qm ?_; refine sq qm ?_; refine sq (by exact q_cap_sl rfl) ?_; refine sq qm ?_; refine sq qls ?_; refine sq qsub64 ?_; refine sq qsub64 ?_; refine sq qa ?_; refine l_nil ?_) | (refine c_region (id := 4) ?_; refine sq qm ?_; refine sq (by first | exact dgtrt | exact dgtrf) ?_; refine l_nil ?_) | (refine c_region (id := 6) ?_; refine sq qm ?_; refine sq qa ?_; refine l_nil ?_) | refine n_then ?_ | refine c_block ?_ | refine c_skip ?_ | refine n_block ?_ | refine c_exit ?_ | refine n_then_exit ?_ | refine n_block_eq ?_ | refine n_block_ne rfl ?_ | refine c_ret ?_ | refine n_then_ret ?_ | refine n_block_ret ?_ | refine c_cond_t rfl ?_ | refine c_cond_f rfl ?_ | refine r_succ ?_ )
    refine add_nil 5 1 ?_
    (first | apply r_ret (none, 0, []) | apply r_end (none, 0, [])); exact rfl; exact rfl; exact (.tmp rfl .nil); exact rfl; exact (by exact (by (repeat (first | exact List.nil_sublist _ | exact List.Sublist.slnil | apply List.Sublist.cons_cons | exact List.Sublist.refl _ | apply List.Sublist.cons)))); exact (new_sl (OS.nil [] w.heap.size).newc new_nil); exact ⟨by simp, rfl⟩
def jn (ps : List Prt) : List Int := ps.flatMap (·.xs)
theorem jn_take {ps : List Prt} {i : Nat} {p : Prt} (h : ps[i]? = some p) : jn (ps.take (i + 1)) = jn (ps.take i) ++ p.xs := by
  unfold jn; rw [List.take_add_one, h]; simp
theorem jn_le (ps : List Prt) (i : Nat) : (jn (ps.take i)).length ≤ (jn ps).length := by
  have : jn ps = jn (ps.take i) ++ jn (ps.drop i) := by unfold jn; rw [← List.flatMap_append, List.take_append_drop]
  rw [this, List.length_append]; omega
set_option maxRecDepth 100000 in
set_option maxHeartbeats 4000000 in
theorem concat_c (ps : List Prt) (ap : Option Addr) (cp0 : Nat) (hn : ps.length ≤ 1000) (hbig : (jn ps).length ≤ 10000000) (w : World) (hps : ∀ p ∈ ps, p.Ok w) (hO : SlE Prt.v w ap ps) :
    CA Tryd.prog 69 [.slice ap ps.length cp0] w (RLe (Value.int .u8) 5 (fun zs => zs = jn ps) w) := by
  refine enter (L := []) (X := []) Tryd.func69 rfl Tryd.ntmps69 rfl rfl (Has.nil _) ?_
  repeat (first | refine c_seq ?_ | (refine c_region (id := 0) ?_; refine sq qa ?_; refine l_nil ?_) | (refine c_region (id := 1) ?_; refine sq qa ?_; refine l_nil ?_) | (refine c_region (id := 2) ?_; refine sq qm ?_; refine sq qls ?_; refine sq qm ?_; refine l_nil ?_) | refine n_then ?_ | refine c_block ?_ | refine c_skip ?_ | refine n_block ?_ | refine c_exit ?_ | refine n_then_exit ?_ | refine n_block_eq ?_ | refine n_block_ne rfl ?_ | refine c_ret ?_ | refine n_then_ret ?_ | refine n_block_ret ?_ | refine c_cond_t rfl ?_ | refine c_cond_f rfl ?_ | refine r_succ ?_ )
  refine c_loop (γ := Nat) (fun z => [(11, .int .i64 ((z : Nat) : Int)), (10, .int .i64 ((ps.length : Nat) : Int)), (9, .slice ap ps.length cp0), (3, .int .i64 (((jn (ps.take z)).length : Nat) : Int)), (0, .slice ap ps.length cp0)]) (fun _ => w.heap.size) (fun _ => []) (fun z => z ≤ ps.length) (fun z => ps.length - z) 0 (by omega) ⟨rfl, rfl, rfl, rfl, rfl, trivial⟩ rfl (by (repeat (first | exact List.nil_sublist _ | exact List.Sublist.slnil | apply List.Sublist.cons_cons | exact List.Sublist.refl _ | apply List.Sublist.cons))) ?_
  intro i hi
  have hi' : i ≤ ps.length := hi
  have hle := jn_le ps i
  by_cases h1 : i < ps.length
  · obtain ⟨p, hpi⟩ : ∃ p, ps[i]? = some p := ⟨_, List.getElem?_eq_getElem h1⟩
    have hp := hps p (List.mem_of_getElem? hpi)
    obtain ⟨g, o, rfl, hOk⟩ := hO.get h1
    have hz : nth (ps.map Prt.v) i = some (.slice p.a p.len p.cap) := nth_map hpi
    have hsu := jn_take hpi
    have hsl : (jn (ps.take (i + 1))).length = (jn (ps.take i)).length + p.len := by rw [hsu, List.length_append, hp.l]
    have hle2 := jn_le ps (i + 1)
    obtain ⟨s, hs⟩ : ∃ s, s = (jn (ps.take i)).length := ⟨_, rfl⟩
    rw [← hs] at hsl hle ⊢
    repeat (first | refine c_seq ?_ | (refine c_region (id := 3) ?_; refine sq (by first | exact dlsst | exact dlssf) ?_; refine l_nil ?_) | (refine c_region (id := 4) ?_; refine sq (by exact q_indexAddr_sl (o' := o + i) rfl rfl (by omega) (by omega) (by omega)) ?_; refine sq ql ?_; refine sq qa ?_; refine l_nil ?_) | (refine c_region (id := 5) ?_; refine sq qm ?_; refine sq qm ?_; refine sq qls ?_; refine sq (by exact Qt.cast (v' := .int .i64 ((s + p.len : Nat) : Int)) (congrArg (Value.int .i64) (by omega)) (q_add64 rfl rfl ⟨by omega, by omega⟩ rfl)) ?_; refine sq qa ?_; refine l_nil ?_) | (refine c_region (id := 6) ?_; refine sq qm ?_; refine sq (by first | exact dlsst | exact dlssf) ?_; refine l_nil ?_) | (refine c_region (id := 8) ?_; refine sq (by exact Qt.cast (v' := .int .i64 ((i + 1 : Nat) : Int)) (congrArg (Value.int .i64) (by omega)) (q_add64 rfl rfl ⟨by omega, by omega⟩ rfl)) ?_; refine sq qm ?_; refine l_nil ?_) | refine n_then ?_ | refine c_block ?_ | refine c_skip ?_ | refine n_block ?_ | refine c_exit ?_ | refine n_then_exit ?_ | refine n_block_eq ?_ | refine n_block_ne rfl ?_ | refine c_ret ?_ | refine n_then_ret ?_ | refine n_block_ret ?_ | refine c_cond_t rfl ?_ | refine c_cond_f rfl ?_ | refine r_succ ?_ )
    refine c_round (γ := Nat) (i + 1) ?_ ?_ ?_ ?_ ?_
    · show i + 1 ≤ ps.length; omega
    · show ps.length - (i + 1) < ps.length - i; omega
    · rw [hsl]; exact ⟨rfl, rfl, rfl, rfl, rfl, trivial⟩
    · rfl
    · exact (by (repeat (first | exact List.nil_sublist _ | exact List.Sublist.slnil | apply List.Sublist.cons_cons | exact List.Sublist.refl _ | apply List.Sublist.cons)))
  · obtain rfl : i = ps.length := by omega
    rw [List.take_length]
    repeat (first | refine c_seq ?_ | (refine c_region (id := 3) ?_; refine sq (by first | exact dlsst | exact dlssf) ?_; refine l_nil ?_) | refine n_then ?_ | refine c_block ?_ | refine c_skip ?_ | refine n_block ?_ | refine c_exit ?_ | refine n_then_exit ?_ | refine n_block_eq ?_ | refine n_block_ne rfl ?_ | refine c_ret ?_ | refine n_then_ret ?_ | refine n_block_ret ?_ | refine c_cond_t rfl ?_ | refine c_cond_f rfl ?_ | refine r_succ ?_ )
    repeat (first | refine c_seq ?_ | (refine c_region (id := 9) ?_; refine sq qm ?_; refine se ?_; refine e_callL rfl rfl (by kernel_rfl) rfl (fun w hC hm hL => by exact grow0_c _ (by omega) w) ?_; intro b1 cap1 zs m1 hz1 ho1 hm1; subst hz1; refine sq qa ?_; refine l_nil ?_) | (refine c_region (id := 10) ?_; refine sq qm ?_; refine sq qls ?_; refine sq qm ?_; refine l_nil ?_) | refine n_then ?_ | refine c_block ?_ | refine c_skip ?_ | refine n_block ?_ | refine c_exit ?_ | refine n_then_exit ?_ | refine n_block_eq ?_ | refine n_block_ne rfl ?_ | refine c_ret ?_ | refine n_then_ret ?_ | refine n_block_ret ?_ | refine c_cond_t rfl ?_ | refine c_cond_f rfl ?_ | refine r_succ ?_ )
    refine c_loop (γ := Nat × Option Addr × Nat × Nat) (fun z => [(27, .int .i64 ((z.1 : Nat) : Int)), (26, .int .i64 ((ps.length : Nat) : Int)), (25, .slice ap ps.length cp0), (6, .slice z.2.1 (jn (ps.take z.1)).length z.2.2.1)]) (fun z => z.2.2.2) (fun z => [.sl z.2.1 z.2.2.1 5 1 ((jn (ps.take z.1)).map (Value.int .u8))]) (fun z => z.1 ≤ ps.length ∧ OS [] w.heap.size z.2.1 z.2.2.1 (jn (ps.take z.1)).length ∧ w.heap.size ≤ z.2.2.2) (fun z => ps.length - z.1) ⟨0, b1, cap1, m1⟩ ⟨by simp, ho1, hm1⟩ ⟨rfl, rfl, rfl, rfl, trivial⟩ rfl (by (repeat (first | exact List.nil_sublist _ | exact List.Sublist.slnil | apply List.Sublist.cons_cons | exact List.Sublist.refl _ | apply List.Sublist.cons))) ?_
    rintro ⟨i, b, cap, mm⟩ ⟨hi, ho, hmm⟩
    dsimp only at hi ho hmm ⊢
    have hle := jn_le ps i
    by_cases h2 : i < ps.length
    · obtain ⟨p, hpi⟩ : ∃ p, ps[i]? = some p := ⟨_, List.getElem?_eq_getElem h2⟩
      have hp := hps p (List.mem_of_getElem? hpi)
      obtain ⟨g, o, rfl, hOk⟩ := hO.get h2
      have hz : nth (ps.map Prt.v) i = some (.slice p.a p.len p.cap) := nth_map hpi
      have hsu := jn_take hpi
      have hsl : (jn (ps.take (i + 1))).length = (jn (ps.take i)).length + p.len := by rw [hsu, List.length_append, hp.l]
      have hle2 := jn_le ps (i + 1)
      repeat (first | refine c_seq ?_ | (refine c_region (id := 11) ?_; refine sq (by first | exact dlsst | exact dlssf) ?_; refine l_nil ?_) | (refine c_region (id := 12) ?_; refine sq (by exact q_indexAddr_sl (o' := o + i) rfl rfl (by omega) (by omega) (by omega)) ?_; refine sq ql ?_; refine sq qa ?_; refine l_nil ?_) | (refine c_region (id := 13) ?_; refine sq qm ?_; refine sq qm ?_; refine se ?_; refine e_appE (Value.int .u8) (jn (ps.take i)) p.xs rfl rfl rfl (by (repeat (first | exact Rm.here | apply Rm.there))) hp.s.vw rfl hp.l ho (allOne_u8c _) (by omega) (by omega) ?_; intro b2 cap2 m2 ho2 hm2; refine sq qa ?_; refine l_nil ?_) | (refine c_region (id := 14) ?_; refine sq (by exact Qt.cast (v' := .int .i64 ((i + 1 : Nat) : Int)) (congrArg (Value.int .i64) (by omega)) (q_add64 rfl rfl ⟨by omega, by omega⟩ rfl)) ?_; refine sq qm ?_; refine l_nil ?_) | refine n_then ?_ | refine c_block ?_ | refine c_skip ?_ | refine n_block ?_ | refine c_exit ?_ | refine n_then_exit ?_ | refine n_block_eq ?_ | refine n_block_ne rfl ?_ | refine c_ret ?_ | refine n_then_ret ?_ | refine n_block_ret ?_ | refine c_cond_t rfl ?_ | refine c_cond_f rfl ?_ | refine r_succ ?_ )
      refine c_round ⟨i + 1, b2, cap2, m2⟩ ⟨by dsimp only; omega, by rw [hsl]; exact ho2, by dsimp only; omega⟩ (by dsimp only; omega) (by dsimp only; rw [hsl]; exact ⟨rfl, rfl, rfl, rfl, trivial⟩) (by rfl) (by rw [hsu]; exact (by (repeat (first | exact List.nil_sublist _ | exact List.Sublist.slnil | apply List.Sublist.cons_cons | exact List.Sublist.refl _ | apply List.Sublist.cons))))
    · obtain rfl : i = ps.length := by omega
      rw [List.take_length] at ho ⊢
      repeat (first | refine c_seq ?_ | (refine c_region (id := 11) ?_; refine sq (by first | exact dlsst | exact dlssf) ?_; refine l_nil ?_) | (refine c_region (id := 15) ?_; refine sq qm ?_; refine sq qa ?_; refine l_nil ?_) | refine n_then ?_ | refine c_block ?_ | refine c_skip ?_ | refine n_block ?_ | refine c_exit ?_ | refine n_then_exit ?_ | refine n_block_eq ?_ | refine n_block_ne rfl ?_ | refine c_ret ?_ | refine n_then_ret ?_ | refine n_block_ret ?_ | refine c_cond_t rfl ?_ | refine c_cond_f rfl ?_ | refine r_succ ?_ )
      (first | apply r_ret (b, cap, jn ps) | apply r_end (b, cap, jn ps)); exact rfl; exact rfl; exact (.tmp rfl .nil); exact rfl; exact (by exact (by (repeat (first | exact List.nil_sublist _ | exact List.Sublist.slnil | apply List.Sublist.cons_cons | exact List.Sublist.refl _ | apply List.Sublist.cons)))); exact (new_sl ho.newc new_nil); exact ⟨by have h9 := ho.ret; exact h9, rfl⟩
end Go.Proofs.YtgmghkakiocmjaaDoor
namespace Go.Proofs.YtgmghkakiocmjaaDoor
open Go Go.RowKit
set_option linter.unusedVariables false
set_option linter.unusedSimpArgs false
abbrev OutL (go : Nat) (b : Option Addr) (cap : Nat) (xs : List Int) (lg : Bool) : List Chunk := [.sl b cap 5 1 (xs.map (Value.int .u8)), .blk go (.cells #[.slice b xs.length cap, .bool lg] 91 (0, 0))]
def NotIn (ya : Option Addr) (ys : List Int) (F : List Nat) : Prop := ∀ g o, ya = some ⟨g, o, none⟩ → 0 < ys.length → g ∉ F
theorem OS.any {X Y : List Nat} {k : Nat} {b : Option Addr} {cap len : Nat} (h : OS X k b cap len) : OS Y 0 b cap len := ⟨h.le, h.max, h.ob, fun g hg => .inr (Nat.zero_le _)⟩
def pS (xs : List Int) (lg : Bool) (ys : List Int) : List Int × Bool := if lg = true ∨ 16384 < xs.length + ys.length then (xs, true) else (xs ++ ys, false)
theorem pS_len {xs : List Int} {lg : Bool} {ys : List Int} (h : xs.length ≤ 16384) : (pS xs lg ys).1.length ≤ 16384 := by
  unfold pS
  split
  · exact h
  · rename_i h2
    rw [List.length_append]; omega
theorem pS_bd {xs : List Int} {lg : Bool} {ys : List Int} (h : ∀ x ∈ xs, 0 ≤ x ∧ x ≤ 255) (h2 : ∀ x ∈ ys, 0 ≤ x ∧ x ≤ 255) : ∀ x ∈ (pS xs lg ys).1, 0 ≤ x ∧ x ≤ 255 := by
  unfold pS
  split
  · exact h
  · intro x hx; exact (List.mem_append.1 hx).elim (h x) (h2 x)
set_option maxRecDepth 100000 in
set_option maxHeartbeats 4000000 in
theorem grow_c (go : Nat) (b : Option Addr) (cap : Nat) (xs : List Int) (lg : Bool) (hxb : ∀ x ∈ xs, 0 ≤ x ∧ x ≤ 255) (hxn : xs.length ≤ 16384) (ho : OS [] 0 b cap xs.length) (w : World) (hL0 : Has (OutL go b cap xs lg) w) (ya : Option Addr) (yl yc : Nat) (ys : List Int) (hyl : ys.length = yl) (hyc : yl ≤ yc) (hyb : ∀ x ∈ ys, 0 ≤ x ∧ x ≤ 255) (hyn : yl ≤ 1000000) (hys : SlE (Value.int .u8) w ya ys) (hyg : NotIn ya ys (feet (OutL go b cap xs lg))) :
    CA Tryd.prog 68 [.pointer (some ⟨go, 0, none⟩), .slice ya yl yc] w (Ret (fun _ : Option Addr × Nat => .tuple #[]) (feet (OutL go b cap xs lg)) (fun z => OutL go z.1 z.2 (xs ++ ys) (lg)) (fun z => OS [] 0 z.1 z.2 (xs ++ ys).length) w) := by
  refine enter (L := [.sl b cap 5 1 (xs.map (Value.int .u8)), .blk go (.cells #[.slice b xs.length cap, .bool lg] 91 (0, 0))]) (X := feet (OutL go b cap xs lg)) Tryd.func68 rfl Tryd.ntmps68 rfl rfl hL0 ?_
  repeat (first | refine c_seq ?_ | (refine c_region (id := 0) ?_; refine sq qm ?_; refine sq qm ?_; refine sq qn ?_; refine sq qf ?_; refine sq ql ?_; refine sq qm ?_; refine se ?_; refine ebs ?_; refine se ?_; refine e_callL rfl rfl (by kernel_rfl) rfl (fun w hC hm hL => by exact concat_c [⟨b, xs.length, cap, xs⟩, ⟨ya, yl, yc, ys⟩] (some ⟨_, 0, none⟩) 2 (by simp) (by simp [jn]; omega) w (fun p hp => by simp only [List.mem_cons, List.not_mem_nil, or_false] at hp; rcases hp with rfl | rfl; exact ⟨SlE.own hL (by (repeat (first | exact List.Mem.head _ | apply List.Mem.tail))) ho, rfl, ho.le, hxb⟩; exact ⟨hys.chn hC hyg, hyl, hyc, hyb⟩) (SlE.blk (enc := Prt.v) hL (by (repeat (first | exact List.Mem.head _ | apply List.Mem.tail))) 0 2 (by rfl))) ?_; intro b1 cap1 zs m1 hz1 ho1 hm1; refine sq qn ?_; refine sq qf ?_; refine se ?_; (refine e_store1l rfl rfl rfl (by (repeat (first | exact List.Mem.head _ | apply List.Mem.tail))) (by first | (simp only [setL]; try exact rfl) | exact rfl) (by (repeat (first | exact Pl.here | apply Pl.there))) rfl (.inl (by simp [feet, OutL, Chunk.foot])) ?_); refine l_nil ?_) | refine n_then ?_ | refine c_block ?_ | refine c_skip ?_ | refine n_block ?_ | refine c_exit ?_ | refine n_then_exit ?_ | refine n_block_eq ?_ | refine n_block_ne rfl ?_ | refine c_ret ?_ | refine n_then_ret ?_ | refine n_block_ret ?_ | refine c_cond_t rfl ?_ | refine c_cond_f rfl ?_ | refine r_succ ?_ )
  obtain rfl : zs = xs ++ ys := by rw [hz1]; simp [jn]
  (first | apply r_ret (b1, cap1) | apply r_end (b1, cap1)); exact rfl; exact rfl; exact .nil; exact rfl; exact (by exact (by (repeat (first | exact List.nil_sublist _ | exact List.Sublist.slnil | apply List.Sublist.cons_cons | exact List.Sublist.refl _ | apply List.Sublist.cons)))); exact (new_sl ho1.newc (new_blk (.inl (by simp [feet, OutL, Chunk.foot])) new_nil)); exact ho1.any
set_option maxRecDepth 100000 in
set_option maxHeartbeats 4000000 in
theorem put_c (go : Nat) (b : Option Addr) (cap : Nat) (xs : List Int) (lg : Bool) (hxb : ∀ x ∈ xs, 0 ≤ x ∧ x ≤ 255) (hxn : xs.length ≤ 16384) (ho : OS [] 0 b cap xs.length) (w : World) (hL0 : Has (OutL go b cap xs lg) w) (ya : Option Addr) (yl yc : Nat) (ys : List Int) (hyl : ys.length = yl) (hyc : yl ≤ yc) (hyb : ∀ x ∈ ys, 0 ≤ x ∧ x ≤ 255) (hyn : yl ≤ 9223372036854775807) (hys : SlE (Value.int .u8) w ya ys) (hyg : NotIn ya ys (feet (OutL go b cap xs lg))) :
    CA Tryd.prog 66 [.pointer (some ⟨go, 0, none⟩), .slice ya yl yc] w (Ret (fun _ : Option Addr × Nat => .tuple #[]) (feet (OutL go b cap xs lg)) (fun z => OutL go z.1 z.2 ((pS xs lg ys).1) ((pS xs lg ys).2)) (fun z => OS [] 0 z.1 z.2 ((pS xs lg ys).1).length) w) := by
  have hx1 := ho.le
  cases lg with
  | true =>
    rw [show pS xs true ys = (xs, true) by simp [pS]]
    refine enter (L := [.sl b cap 5 1 (xs.map (Value.int .u8)), .blk go (.cells #[.slice b xs.length cap, .bool true] 91 (0, 0))]) (X := feet (OutL go b cap xs true)) Tryd.func66 rfl Tryd.ntmps66 rfl rfl hL0 ?_
    repeat (first | refine c_seq ?_ | (refine c_region (id := 0) ?_; refine sq qm ?_; refine sq qn ?_; refine sq qf ?_; refine sq ql ?_; refine sq qm ?_; (first | refine sk ?_ | refine skv ?_ | (refine st_want rfl rfl ?_; refine sq qm ?_)); (first | refine sk ?_ | refine skv ?_ | (refine st_want rfl rfl ?_; refine sq qls ?_)); (first | refine sk ?_ | refine skv ?_ | (refine st_want rfl rfl ?_; refine sq qm ?_)); (first | refine sk ?_ | refine skv ?_ | (refine st_want rfl rfl ?_; refine sq qn ?_)); (first | refine sk ?_ | refine skv ?_ | (refine st_want rfl rfl ?_; refine sq qf ?_)); (first | refine sk ?_ | refine skv ?_ | (refine st_want rfl rfl ?_; refine sq qf ?_)); (first | refine sk ?_ | refine skv ?_ | (refine st_want rfl rfl ?_; refine sq ql ?_)); (first | refine sk ?_ | refine skv ?_ | (refine st_want rfl rfl ?_; refine sq qls ?_)); (first | refine sk ?_ | refine skv ?_ | (refine st_want rfl rfl ?_; refine sq qsub64 ?_)); (first | refine sk ?_ | refine skv ?_ | (refine st_want rfl rfl ?_; refine sq (by first | exact dgtrt | exact dgtrf) ?_)); refine sq (by first | exact qpt | exact qpf) ?_; refine l_nil ?_) | (refine c_region (id := 1) ?_; refine sq qm ?_; refine sq qn ?_; refine sq qf ?_; refine se ?_; (refine e_store1l rfl rfl rfl (by (repeat (first | exact List.Mem.head _ | apply List.Mem.tail))) (by first | (simp only [setL]; try exact rfl) | exact rfl) (by (repeat (first | exact Pl.here | apply Pl.there))) rfl (.inl (by simp [feet, OutL, Chunk.foot])) ?_); refine l_nil ?_) | refine n_then ?_ | refine c_block ?_ | refine c_skip ?_ | refine n_block ?_ | refine c_exit ?_ | refine n_then_exit ?_ | refine n_block_eq ?_ | refine n_block_ne rfl ?_ | refine c_ret ?_ | refine n_then_ret ?_ | refine n_block_ret ?_ | refine c_cond_t rfl ?_ | refine c_cond_f rfl ?_ | refine r_succ ?_ )
    (first | apply r_ret (b, cap) | apply r_end (b, cap)); exact rfl; exact rfl; exact .nil; exact rfl; exact (by exact (by (repeat (first | exact List.nil_sublist _ | exact List.Sublist.slnil | apply List.Sublist.cons_cons | exact List.Sublist.refl _ | apply List.Sublist.cons)))); exact (fun g hg => .inl hg); exact ho
  | false =>
    by_cases hf : 16384 < xs.length + ys.length
    · rw [show pS xs false ys = (xs, true) by unfold pS; rw [if_pos (.inr hf)]]
      refine enter (L := [.sl b cap 5 1 (xs.map (Value.int .u8)), .blk go (.cells #[.slice b xs.length cap, .bool false] 91 (0, 0))]) (X := feet (OutL go b cap xs false)) Tryd.func66 rfl Tryd.ntmps66 rfl rfl hL0 ?_
      repeat (first | refine c_seq ?_ | (refine c_region (id := 0) ?_; refine sq qm ?_; refine sq qn ?_; refine sq qf ?_; refine sq ql ?_; refine sq qm ?_; (first | refine sk ?_ | refine skv ?_ | (refine st_want rfl rfl ?_; refine sq qm ?_)); (first | refine sk ?_ | refine skv ?_ | (refine st_want rfl rfl ?_; refine sq qls ?_)); (first | refine sk ?_ | refine skv ?_ | (refine st_want rfl rfl ?_; refine sq qm ?_)); (first | refine sk ?_ | refine skv ?_ | (refine st_want rfl rfl ?_; refine sq qn ?_)); (first | refine sk ?_ | refine skv ?_ | (refine st_want rfl rfl ?_; refine sq qf ?_)); (first | refine sk ?_ | refine skv ?_ | (refine st_want rfl rfl ?_; refine sq qf ?_)); (first | refine sk ?_ | refine skv ?_ | (refine st_want rfl rfl ?_; refine sq ql ?_)); (first | refine sk ?_ | refine skv ?_ | (refine st_want rfl rfl ?_; refine sq qls ?_)); (first | refine sk ?_ | refine skv ?_ | (refine st_want rfl rfl ?_; refine sq qsub64 ?_)); (first | refine sk ?_ | refine skv ?_ | (refine st_want rfl rfl ?_; refine sq (by first | exact dgtrt | exact dgtrf) ?_)); refine sq (by first | exact qpt | exact qpf) ?_; refine l_nil ?_) | (refine c_region (id := 1) ?_; refine sq qm ?_; refine sq qn ?_; refine sq qf ?_; refine se ?_; (refine e_store1l rfl rfl rfl (by (repeat (first | exact List.Mem.head _ | apply List.Mem.tail))) (by first | (simp only [setL]; try exact rfl) | exact rfl) (by (repeat (first | exact Pl.here | apply Pl.there))) rfl (.inl (by simp [feet, OutL, Chunk.foot])) ?_); refine l_nil ?_) | refine n_then ?_ | refine c_block ?_ | refine c_skip ?_ | refine n_block ?_ | refine c_exit ?_ | refine n_then_exit ?_ | refine n_block_eq ?_ | refine n_block_ne rfl ?_ | refine c_ret ?_ | refine n_then_ret ?_ | refine n_block_ret ?_ | refine c_cond_t rfl ?_ | refine c_cond_f rfl ?_ | refine r_succ ?_ )
      (first | apply r_ret (b, cap) | apply r_end (b, cap)); exact rfl; exact rfl; exact .nil; exact rfl; exact (by exact (by (repeat (first | exact List.nil_sublist _ | exact List.Sublist.slnil | apply List.Sublist.cons_cons | exact List.Sublist.refl _ | apply List.Sublist.cons)))); exact (fun g hg => .inl hg); exact ho
    · rw [show pS xs false ys = (xs ++ ys, false) by unfold pS; rw [if_neg (by simp; omega)]]
      refine enter (L := [.sl b cap 5 1 (xs.map (Value.int .u8)), .blk go (.cells #[.slice b xs.length cap, .bool false] 91 (0, 0))]) (X := feet (OutL go b cap xs false)) Tryd.func66 rfl Tryd.ntmps66 rfl rfl hL0 ?_
      repeat (first | refine c_seq ?_ | (refine c_region (id := 0) ?_; refine sq qm ?_; refine sq qn ?_; refine sq qf ?_; refine sq ql ?_; refine sq qm ?_; (first | refine sk ?_ | refine skv ?_ | (refine st_want rfl rfl ?_; refine sq qm ?_)); (first | refine sk ?_ | refine skv ?_ | (refine st_want rfl rfl ?_; refine sq qls ?_)); (first | refine sk ?_ | refine skv ?_ | (refine st_want rfl rfl ?_; refine sq qm ?_)); (first | refine sk ?_ | refine skv ?_ | (refine st_want rfl rfl ?_; refine sq qn ?_)); (first | refine sk ?_ | refine skv ?_ | (refine st_want rfl rfl ?_; refine sq qf ?_)); (first | refine sk ?_ | refine skv ?_ | (refine st_want rfl rfl ?_; refine sq qf ?_)); (first | refine sk ?_ | refine skv ?_ | (refine st_want rfl rfl ?_; refine sq ql ?_)); (first | refine sk ?_ | refine skv ?_ | (refine st_want rfl rfl ?_; refine sq qls ?_)); (first | refine sk ?_ | refine skv ?_ | (refine st_want rfl rfl ?_; refine sq qsub64 ?_)); (first | refine sk ?_ | refine skv ?_ | (refine st_want rfl rfl ?_; refine sq (by first | exact dgtrt | exact dgtrf) ?_)); refine sq (by first | exact qpt | exact qpf) ?_; refine l_nil ?_) | refine n_then ?_ | refine c_block ?_ | refine c_skip ?_ | refine n_block ?_ | refine c_exit ?_ | refine n_then_exit ?_ | refine n_block_eq ?_ | refine n_block_ne rfl ?_ | refine c_ret ?_ | refine n_then_ret ?_ | refine n_block_ret ?_ | refine c_cond_t rfl ?_ | refine c_cond_f rfl ?_ | refine r_succ ?_ )
      repeat (first | refine c_seq ?_ | (refine c_region (id := 2) ?_; refine sq qm ?_; refine sq qn ?_; refine sq qf ?_; refine sq qm ?_; refine se ?_; refine e_callX (OutL go b cap xs false) (fun z : Option Addr × Nat => [.sl z.1 z.2 5 1 ((xs ++ ys).map (Value.int .u8)), .blk go (.cells #[.slice z.1 (xs ++ ys).length z.2, .bool false] 91 (0, 0))]) rfl rfl (by kernel_rfl) rfl (by (repeat (first | exact Sp.nil | (apply Sp.cons; focus (repeat (first | exact Rm.here | apply Rm.there)))))) (fun w hC hm hA hL hap => by exact grow_c go b cap xs false hxb hxn ho w hA ya yl yc ys hyl hyc hyb (by omega) (hys.chn hC hyg) hyg) (fun g hg => .inl hg) (fun z => by rfl) ?_; rintro ⟨b1, cap1⟩ m1 ho1 hn1 hm1; dsimp only at ho1 hn1 ⊢; refine l_nil ?_) | refine n_then ?_ | refine c_block ?_ | refine c_skip ?_ | refine n_block ?_ | refine c_exit ?_ | refine n_then_exit ?_ | refine n_block_eq ?_ | refine n_block_ne rfl ?_ | refine c_ret ?_ | refine n_then_ret ?_ | refine n_block_ret ?_ | refine c_cond_t rfl ?_ | refine c_cond_f rfl ?_ | refine r_succ ?_ )
      (first | apply r_ret (b1, cap1) | apply r_end (b1, cap1)); exact rfl; exact rfl; exact .nil; exact rfl; exact (by exact (by (repeat (first | exact List.nil_sublist _ | exact List.Sublist.slnil | apply List.Sublist.cons_cons | exact List.Sublist.refl _ | apply List.Sublist.cons)))); exact hn1; exact ho1
end Go.Proofs.YtgmghkakiocmjaaDoor
namespace Go.Proofs.YtgmghkakiocmjaaDoor
open Go Go.RowKit
set_option linter.unusedVariables false
set_option linter.unusedSimpArgs false
def leb (x : Nat) : List Int := if x < 128 then [(x : Int)] else ((x % 128 + 128 : Nat) : Int) :: leb (x / 128)
decreasing_by omega
theorem leb_small {x : Nat} (h : x < 128) : leb x = [(x : Int)] := by rw [leb, if_pos h]
theorem leb_big {x : Nat} (h : ¬ x < 128) : leb x = ((x % 128 + 128 : Nat) : Int) :: leb (x / 128) := by rw [leb, if_neg h]
theorem leb_bd (x : Nat) : ∀ y ∈ leb x, 0 ≤ y ∧ y ≤ 255 := by
  induction x using Nat.strongRecOn with
  | ind x ih =>
    by_cases h : x < 128
    · rw [leb_small h]; intro y hy; simp only [List.mem_singleton] at hy; omega
    · rw [leb_big h]; intro y hy
      rcases List.mem_cons.1 hy with rfl | hy
      · omega
      · exact ih (x / 128) (by omega) y hy
theorem or128 (c : Nat) : bits .or .u8 ((c % 256 : Nat) : Int) 128 = ((c % 128 + 128 : Nat) : Int) := by
  have h : ∀ z : Fin 256, bits .or .u8 ((z.val : Nat) : Int) 128 = ((z.val % 128 + 128 : Nat) : Int) := by decide +kernel
  have := h ⟨c % 256, by omega⟩
  simp only at this
  rw [this]
  congr 2
  omega
theorem pk_set (pk : List Int) (v : Int) (h : pk.length < 10) : ((pk ++ List.replicate (10 - pk.length) 0).map (Value.int .u8)).set pk.length (.int .u8 v) = ((pk ++ [v] ++ List.replicate (10 - (pk.length + 1)) 0).map (Value.int .u8)) := by
  obtain ⟨q, hq⟩ : ∃ q, 10 - pk.length = q + 1 := ⟨10 - pk.length - 1, by omega⟩
  rw [hq, show 10 - (pk.length + 1) = q by omega]
  simp [List.map_append, List.set_append_right, List.replicate_succ]
theorem pk_take (pk : List Int) (v : Int) (q : Nat) : ((((pk ++ [v] ++ List.replicate q 0).map (Value.int .u8)).toArray.toList.drop 0).take (pk.length + 1)) = (pk ++ [v]).map (Value.int .u8) := by
  rw [List.drop_zero, List.map_append]
  rw [show pk.length + 1 = ((pk ++ [v]).map (Value.int .u8)).length by simp]
  exact List.take_left
theorem pow_bound {n cur x : Nat} (h : cur * 128 ^ n ≤ x) (hx : x < 18446744073709551616) (hc : 1 ≤ cur) : n ≤ 9 := by
  rcases Nat.lt_or_ge n 10 with h9 | h9
  · omega
  · have h1 : 128 ^ 10 ≤ 128 ^ n := Nat.pow_le_pow_right (by omega) h9
    have h2 : 1 * 128 ^ n ≤ cur * 128 ^ n := Nat.mul_le_mul_right _ hc
    have h3 : (128 : Nat) ^ 10 = 1180591620717411303424 := by decide
    omega
theorem pow_step {n cur x : Nat} (h : cur * 128 ^ n ≤ x) : (cur / 128) * 128 ^ (n + 1) ≤ x := by
  rw [Nat.pow_succ, Nat.mul_comm (128 ^ n), ← Nat.mul_assoc]
  exact Nat.le_trans (Nat.mul_le_mul_right _ (Nat.div_mul_le_self _ _)) h
set_option maxRecDepth 100000 in
set_option maxHeartbeats 4000000 in
theorem num_c (go : Nat) (b : Option Addr) (cap : Nat) (xs : List Int) (lg : Bool) (hxb : ∀ x ∈ xs, 0 ≤ x ∧ x ≤ 255) (hxn : xs.length ≤ 16384) (ho : OS [] 0 b cap xs.length) (w : World) (hL0 : Has (OutL go b cap xs lg) w) (x : Nat) (hx64 : x < 18446744073709551616) :
    CA Tryd.prog 61 [.pointer (some ⟨go, 0, none⟩), .int .u64 (x : Int)] w (Ret (fun _ : Option Addr × Nat => .tuple #[]) (feet (OutL go b cap xs lg)) (fun z => OutL go z.1 z.2 ((pS xs lg (leb x)).1) ((pS xs lg (leb x)).2)) (fun z => OS [] 0 z.1 z.2 ((pS xs lg (leb x)).1).length) w) := by
  obtain ⟨gp, hgp⟩ : ∃ gp, gp = w.heap.size := ⟨_, rfl⟩
  refine enter (L := [.sl b cap 5 1 (xs.map (Value.int .u8)), .blk go (.cells #[.slice b xs.length cap, .bool lg] 91 (0, 0))]) (X := feet (OutL go b cap xs lg)) Tryd.func61 rfl Tryd.ntmps61 rfl rfl hL0 ?_
  rw [← hgp]
  repeat (first | refine c_seq ?_ | (refine c_region (id := 0) ?_; refine se ?_; refine ea ?_; refine l_nil ?_) | (refine c_region (id := 1) ?_; refine sq qa ?_; refine l_nil ?_) | refine n_then ?_ | refine c_block ?_ | refine c_skip ?_ | refine n_block ?_ | refine c_exit ?_ | refine n_then_exit ?_ | refine n_block_eq ?_ | refine n_block_ne rfl ?_ | refine c_ret ?_ | refine n_then_ret ?_ | refine n_block_ret ?_ | refine c_cond_t rfl ?_ | refine c_cond_f rfl ?_ | refine r_succ ?_ )
  refine chg (L' := .blk gp (.cells ((([] : List Int) ++ List.replicate (10) 0).map (Value.int .u8)).toArray 127 (0, 0)) :: OutL go b cap xs lg) (by rfl) ?_
  refine c_loop (γ := List Int × Nat) (fun z => [(5, .int .i64 ((z.1.length : Nat) : Int)), (4, .pointer (some ⟨gp, 0, none⟩)), (1, .int .u64 ((z.2 : Nat) : Int)), (0, .pointer (some ⟨go, 0, none⟩))]) (fun _ => gp + 1) (fun z => .blk gp (.cells ((z.1 ++ List.replicate (10 - z.1.length) 0).map (Value.int .u8)).toArray 127 (0, 0)) :: OutL go b cap xs lg) (fun z => leb x = z.1 ++ leb z.2 ∧ z.2 * 128 ^ z.1.length ≤ x ∧ 1 ≤ z.2 ∨ (z.1 = [] ∧ z.2 = x)) (fun z => z.2) ⟨[], x⟩ (.inr ⟨rfl, rfl⟩) ⟨rfl, rfl, rfl, rfl, trivial⟩ rfl (by (repeat (first | exact List.nil_sublist _ | exact List.Sublist.slnil | apply List.Sublist.cons_cons | exact List.Sublist.refl _ | apply List.Sublist.cons))) ?_
  rintro ⟨pk, cur⟩ hpk
  dsimp only at hpk ⊢
  have hlx0 : leb x = pk ++ leb cur := by rcases hpk with h9 | h9; exact h9.1; rw [h9.1, h9.2]; rfl
  have hcx : cur * 128 ^ pk.length ≤ x := by rcases hpk with h9 | h9; exact h9.2.1; rw [h9.1, h9.2]; simp
  have hn9 : pk.length ≤ 9 := by rcases hpk with h9 | h9; exact pow_bound hcx hx64 h9.2.2; rw [h9.1]; simp
  have hcu : cur ≤ x := by
    have h7 := Nat.le_mul_of_pos_right cur (show 0 < 128 ^ pk.length from Nat.pow_pos (by omega)); omega
  by_cases hc : cur < 128
  · have hlx : leb x = pk ++ [(cur : Int)] := by rw [hlx0, leb_small hc]
    have hlx2 : (leb x).length = pk.length + 1 := by rw [hlx]; simp
    repeat (first | refine c_seq ?_ | (refine c_region (id := 2) ?_; refine sq qm ?_; refine sq (by first | exact dgeqt | exact dgeqf) ?_; refine l_nil ?_) | (refine c_region (id := 6) ?_; refine sq qm ?_; refine sq qm ?_; refine sq (by exact Qt.cast (v' := .int .u8 ((cur : Nat) : Int)) (congrArg (Value.int .u8) (by omega)) (q_conv8 rfl)) ?_; refine sq (by exact q_indexAddr_arr (o' := pk.length) rfl rfl (by omega) (by omega) (by omega)) ?_; refine se ?_; (refine e_store1l (l := (pk ++ List.replicate (10 - pk.length) 0).map (Value.int .u8)) (l' := (pk ++ [((cur : Nat) : Int)] ++ List.replicate (10 - (pk.length + 1)) 0).map (Value.int .u8)) rfl rfl rfl (by (repeat (first | exact List.Mem.head _ | apply List.Mem.tail))) (by rw [setL_eq]; exact pk_set pk _ (by omega)) (by (repeat (first | exact Pl.here | apply Pl.there))) (by simp; omega) (by first | (left; simp; done) | (right; omega)) ?_); refine l_nil ?_) | refine n_then ?_ | refine c_block ?_ | refine c_skip ?_ | refine n_block ?_ | refine c_exit ?_ | refine n_then_exit ?_ | refine n_block_eq ?_ | refine n_block_ne rfl ?_ | refine c_ret ?_ | refine n_then_ret ?_ | refine n_block_ret ?_ | refine c_cond_t rfl ?_ | refine c_cond_f rfl ?_ | refine r_succ ?_ )
    repeat (first | refine c_seq ?_ | (refine c_region (id := 7) ?_; refine sq qm ?_; refine sq qm ?_; refine sq (by exact Qt.cast (v' := .int .i64 ((pk.length + 1 : Nat) : Int)) (congrArg (Value.int .i64) (by omega)) (q_add64 rfl rfl ⟨by omega, by omega⟩ rfl)) ?_; refine sq (by exact q_slice_arr (o' := 0) (len' := pk.length + 1) (cap' := 10) rfl rfl rfl (by omega) (by omega) (by omega) (by simp) (by omega) (by omega)) ?_; refine se ?_; refine e_callX (OutL go b cap xs lg) (fun z : Option Addr × Nat => [.sl z.1 z.2 5 1 (((pS xs lg (leb x)).1).map (Value.int .u8)), .blk go (.cells #[.slice z.1 ((pS xs lg (leb x)).1).length z.2, .bool (pS xs lg (leb x)).2] 91 (0, 0)), .blk gp (.cells ((pk ++ [((cur : Nat) : Int)] ++ List.replicate (10 - (pk.length + 1)) 0).map (Value.int .u8)).toArray 127 (0, 0))]) rfl rfl (by kernel_rfl) rfl (by (repeat (first | exact Sp.nil | (apply Sp.cons; focus (repeat (first | exact Rm.here | apply Rm.there)))))) (fun w hC hm hA hL hap => by exact put_c go b cap xs lg hxb hxn ho w hA (some ⟨gp, 0, none⟩) (pk.length + 1) 10 (leb x) hlx2 (by omega) (leb_bd x) (by omega) (by rw [hlx]; exact SlE.blk (enc := Value.int .u8) hL (by (repeat (first | exact List.Mem.head _ | apply List.Mem.tail))) 0 (pk.length + 1) (pk_take pk _ _)) (fun g o e _ => by simp only [Option.some.injEq, Addr.mk.injEq] at e; intro hm; exact hap g hm (by simp [feet, Chunk.foot, e.1]))) (fun g hg => .inl hg) (fun z => by rfl) ?_; rintro ⟨b1, cap1⟩ m1 ho1 hn1 hm1; dsimp only at ho1 hn1 ⊢; refine l_nil ?_) | refine n_then ?_ | refine c_block ?_ | refine c_skip ?_ | refine n_block ?_ | refine c_exit ?_ | refine n_then_exit ?_ | refine n_block_eq ?_ | refine n_block_ne rfl ?_ | refine c_ret ?_ | refine n_then_ret ?_ | refine n_block_ret ?_ | refine c_cond_t rfl ?_ | refine c_cond_f rfl ?_ | refine r_succ ?_ )
    (first | apply r_ret (b1, cap1) | apply r_end (b1, cap1)); exact rfl; exact rfl; exact .nil; exact rfl; exact (by exact (by (repeat (first | exact List.nil_sublist _ | exact List.Sublist.slnil | apply List.Sublist.cons_cons | exact List.Sublist.refl _ | apply List.Sublist.cons)))); exact hn1; exact ho1
  · have hc1 : 1 ≤ cur / 128 := by omega
    have hst := pow_step hcx
    have hn8 : pk.length + 1 ≤ 9 := pow_bound hst hx64 hc1
    repeat (first | refine c_seq ?_ | (refine c_region (id := 2) ?_; refine sq qm ?_; refine sq (by first | exact dgeqt | exact dgeqf) ?_; refine l_nil ?_) | (refine c_region (id := 3) ?_; refine sq qm ?_; refine sq (by exact Qt.cast (v' := .int .u64 ((cur / 128 : Nat) : Int)) (congrArg (Value.int .u64) (by rw [show (2 : Int) ^ (7 : Int).toNat = 128 by rfl]; omega)) (q_shr rfl rfl (by omega) (by show Int.toNat _ ≤ 64; omega))) ?_; refine sq qa ?_; refine l_nil ?_) | (refine c_region (id := 4) ?_; refine sq qm ?_; refine sq qm ?_; refine sq (by exact Qt.cast (v' := .int .u8 ((cur % 256 : Nat) : Int)) (congrArg (Value.int .u8) (by omega)) (q_conv8 rfl)) ?_; refine sq (by exact Qt.cast (v' := .int .u8 ((cur % 128 + 128 : Nat) : Int)) (congrArg (Value.int .u8) (or128 cur)) (q_or rfl rfl)) ?_; refine sq (by exact q_indexAddr_arr (o' := pk.length) rfl rfl (by omega) (by omega) (by omega)) ?_; refine se ?_; (refine e_store1l (l := (pk ++ List.replicate (10 - pk.length) 0).map (Value.int .u8)) (l' := (pk ++ [((cur % 128 + 128 : Nat) : Int)] ++ List.replicate (10 - (pk.length + 1)) 0).map (Value.int .u8)) rfl rfl rfl (by (repeat (first | exact List.Mem.head _ | apply List.Mem.tail))) (by rw [setL_eq]; exact pk_set pk _ (by omega)) (by (repeat (first | exact Pl.here | apply Pl.there))) (by simp; omega) (by first | (left; simp; done) | (right; omega)) ?_); refine l_nil ?_) | (refine c_region (id := 5) ?_; refine sq qm ?_; refine sq (by exact Qt.cast (v' := .int .i64 ((pk.length + 1 : Nat) : Int)) (congrArg (Value.int .i64) (by omega)) (q_add64 rfl rfl ⟨by omega, by omega⟩ rfl)) ?_; refine sq qa ?_; refine l_nil ?_) | refine n_then ?_ | refine c_block ?_ | refine c_skip ?_ | refine n_block ?_ | refine c_exit ?_ | refine n_then_exit ?_ | refine n_block_eq ?_ | refine n_block_ne rfl ?_ | refine c_ret ?_ | refine n_then_ret ?_ | refine n_block_ret ?_ | refine c_cond_t rfl ?_ | refine c_cond_f rfl ?_ | refine r_succ ?_ )
    refine c_round ⟨pk ++ [((cur % 128 + 128 : Nat) : Int)], cur / 128⟩ (.inl ⟨by dsimp only; rw [hlx0, leb_big hc, List.append_assoc]; rfl, by dsimp only; rw [List.length_append]; exact hst, hc1⟩) (by dsimp only; omega) (by dsimp only; rw [List.length_append]; exact ⟨rfl, rfl, rfl, rfl, trivial⟩) (by rfl) (by dsimp only; rw [List.length_append]; exact (by (repeat (first | exact List.nil_sublist _ | exact List.Sublist.slnil | apply List.Sublist.cons_cons | exact List.Sublist.refl _ | apply List.Sublist.cons))))
end Go.Proofs.YtgmghkakiocmjaaDoor
namespace Go.Proofs.YtgmghkakiocmjaaDoor
open Go Go.RowKit
set_option linter.unusedVariables false
set_option linter.unusedSimpArgs false
def txS (xs : List Int) (lg : Bool) (ys : List Int) : List Int × Bool := if 4096 < ys.length then (xs, true) else pS (pS xs lg (leb ys.length)).1 (pS xs lg (leb ys.length)).2 ys
theorem notNew {ya : Option Addr} {ys : List Int} {F F' : List Nat} {w : World} (h : NotIn ya ys F) (hs : SlE (Value.int .u8) w ya ys) (hF : ∀ g ∈ F', g ∈ F ∨ w.heap.size ≤ g) : NotIn ya ys F' := fun g o e hl hm =>
  (hF g hm).elim (h g o e hl) (fun h9 => by have := hs.lt g o e hl; omega)
set_option maxRecDepth 100000 in
set_option maxHeartbeats 4000000 in
theorem raw_c (go : Nat) (b : Option Addr) (cap : Nat) (xs : List Int) (lg : Bool) (hxb : ∀ x ∈ xs, 0 ≤ x ∧ x ≤ 255) (hxn : xs.length ≤ 16384) (ho : OS [] 0 b cap xs.length) (w : World) (hL0 : Has (OutL go b cap xs lg) w) (ya : Option Addr) (yl yc : Nat) (ys : List Int) (hyl : ys.length = yl) (hyc : yl ≤ yc) (hyb : ∀ x ∈ ys, 0 ≤ x ∧ x ≤ 255) (hyn : yl ≤ 9223372036854775807) (hys : SlE (Value.int .u8) w ya ys) (hyg : NotIn ya ys (feet (OutL go b cap xs lg))) :
    CA Tryd.prog 62 [.pointer (some ⟨go, 0, none⟩), .slice ya yl yc] w (Ret (fun _ : Option Addr × Nat => .tuple #[]) (feet (OutL go b cap xs lg)) (fun z => OutL go z.1 z.2 ((pS xs lg ys).1) ((pS xs lg ys).2)) (fun z => OS [] 0 z.1 z.2 ((pS xs lg ys).1).length) w) := by
  refine enter (L := [.sl b cap 5 1 (xs.map (Value.int .u8)), .blk go (.cells #[.slice b xs.length cap, .bool lg] 91 (0, 0))]) (X := feet (OutL go b cap xs lg)) Tryd.func62 rfl Tryd.ntmps62 rfl rfl hL0 ?_
  repeat (first | refine c_seq ?_ | (refine c_region (id := 0) ?_; refine sq qm ?_; refine sq qm ?_; refine se ?_; refine e_callX (OutL go b cap xs lg) (fun z : Option Addr × Nat => [.sl z.1 z.2 5 1 (((pS xs lg ys).1).map (Value.int .u8)), .blk go (.cells #[.slice z.1 ((pS xs lg ys).1).length z.2, .bool (pS xs lg ys).2] 91 (0, 0))]) rfl rfl (by kernel_rfl) rfl (by (repeat (first | exact Sp.nil | (apply Sp.cons; focus (repeat (first | exact Rm.here | apply Rm.there)))))) (fun w hC hm hA hL hap => by exact put_c go b cap xs lg hxb hxn ho w hA ya yl yc ys hyl (by omega) hyb (by omega) (hys.chn hC hyg) hyg) (fun g hg => .inl hg) (fun z => by rfl) ?_; rintro ⟨b1, cap1⟩ m1 ho1 hn1 hm1; dsimp only at ho1 hn1 ⊢; refine l_nil ?_) | refine n_then ?_ | refine c_block ?_ | refine c_skip ?_ | refine n_block ?_ | refine c_exit ?_ | refine n_then_exit ?_ | refine n_block_eq ?_ | refine n_block_ne rfl ?_ | refine c_ret ?_ | refine n_then_ret ?_ | refine n_block_ret ?_ | refine c_cond_t rfl ?_ | refine c_cond_f rfl ?_ | refine r_succ ?_ )
  (first | apply r_ret (b1, cap1) | apply r_end (b1, cap1)); exact rfl; exact rfl; exact .nil; exact rfl; exact (by exact (by (repeat (first | exact List.nil_sublist _ | exact List.Sublist.slnil | apply List.Sublist.cons_cons | exact List.Sublist.refl _ | apply List.Sublist.cons)))); exact hn1; exact ho1
set_option maxRecDepth 100000 in
set_option maxHeartbeats 4000000 in
theorem text_c (go : Nat) (b : Option Addr) (cap : Nat) (xs : List Int) (lg : Bool) (hxb : ∀ x ∈ xs, 0 ≤ x ∧ x ≤ 255) (hxn : xs.length ≤ 16384) (ho : OS [] 0 b cap xs.length) (w : World) (hL0 : Has (OutL go b cap xs lg) w) (ya : Option Addr) (yl yc : Nat) (ys : List Int) (hyl : ys.length = yl) (hyc : yl ≤ yc) (hyb : ∀ x ∈ ys, 0 ≤ x ∧ x ≤ 255) (hyn : yl ≤ 9223372036854775807) (hys : SlE (Value.int .u8) w ya ys) (hyg : NotIn ya ys (feet (OutL go b cap xs lg))) :
    CA Tryd.prog 44 [.pointer (some ⟨go, 0, none⟩), .slice ya yl yc] w (Ret (fun _ : Option Addr × Nat => .tuple #[]) (feet (OutL go b cap xs lg)) (fun z => OutL go z.1 z.2 ((txS xs lg ys).1) ((txS xs lg ys).2)) (fun z => OS [] 0 z.1 z.2 ((txS xs lg ys).1).length) w) := by
  by_cases hf : 4096 < ys.length
  · rw [show txS xs lg ys = (xs, true) by unfold txS; rw [if_pos hf]]
    refine enter (L := [.sl b cap 5 1 (xs.map (Value.int .u8)), .blk go (.cells #[.slice b xs.length cap, .bool lg] 91 (0, 0))]) (X := feet (OutL go b cap xs lg)) Tryd.func44 rfl Tryd.ntmps44 rfl rfl hL0 ?_
    repeat (first | refine c_seq ?_ | (refine c_region (id := 0) ?_; refine sq qm ?_; refine sq qls ?_; refine sq (by first | exact dgtrt | exact dgtrf) ?_; refine l_nil ?_) | (refine c_region (id := 1) ?_; refine sq qm ?_; refine sq qn ?_; refine sq qf ?_; refine se ?_; (refine e_store1l rfl rfl rfl (by (repeat (first | exact List.Mem.head _ | apply List.Mem.tail))) (by first | (simp only [setL]; try exact rfl) | exact rfl) (by (repeat (first | exact Pl.here | apply Pl.there))) rfl (.inl (by simp [feet, OutL, Chunk.foot])) ?_); refine l_nil ?_) | refine n_then ?_ | refine c_block ?_ | refine c_skip ?_ | refine n_block ?_ | refine c_exit ?_ | refine n_then_exit ?_ | refine n_block_eq ?_ | refine n_block_ne rfl ?_ | refine c_ret ?_ | refine n_then_ret ?_ | refine n_block_ret ?_ | refine c_cond_t rfl ?_ | refine c_cond_f rfl ?_ | refine r_succ ?_ )
    (first | apply r_ret (b, cap) | apply r_end (b, cap)); exact rfl; exact rfl; exact .nil; exact rfl; exact (by exact (by (repeat (first | exact List.nil_sublist _ | exact List.Sublist.slnil | apply List.Sublist.cons_cons | exact List.Sublist.refl _ | apply List.Sublist.cons)))); exact (fun g hg => .inl hg); exact ho
  · rw [show txS xs lg ys = pS (pS xs lg (leb ys.length)).1 (pS xs lg (leb ys.length)).2 ys by unfold txS; rw [if_neg hf]]
    obtain ⟨x1, hx1⟩ : ∃ x1, x1 = (pS xs lg (leb ys.length)).1 := ⟨_, rfl⟩
    obtain ⟨l1, hl1⟩ : ∃ l1, l1 = (pS xs lg (leb ys.length)).2 := ⟨_, rfl⟩
    have hx1n : x1.length ≤ 16384 := by rw [hx1]; exact pS_len hxn
    have hx1b : ∀ x ∈ x1, 0 ≤ x ∧ x ≤ 255 := by rw [hx1]; exact pS_bd hxb (leb_bd _)
    rw [← hx1, ← hl1]
    refine enter (L := [.sl b cap 5 1 (xs.map (Value.int .u8)), .blk go (.cells #[.slice b xs.length cap, .bool lg] 91 (0, 0))]) (X := feet (OutL go b cap xs lg)) Tryd.func44 rfl Tryd.ntmps44 rfl rfl hL0 ?_
    repeat (first | refine c_seq ?_ | (refine c_region (id := 0) ?_; refine sq qm ?_; refine sq qls ?_; refine sq (by first | exact dgtrt | exact dgtrf) ?_; refine l_nil ?_) | refine n_then ?_ | refine c_block ?_ | refine c_skip ?_ | refine n_block ?_ | refine c_exit ?_ | refine n_then_exit ?_ | refine n_block_eq ?_ | refine n_block_ne rfl ?_ | refine c_ret ?_ | refine n_then_ret ?_ | refine n_block_ret ?_ | refine c_cond_t rfl ?_ | refine c_cond_f rfl ?_ | refine r_succ ?_ )
    repeat (first | refine c_seq ?_ | (refine c_region (id := 2) ?_; refine sq qm ?_; refine sq qm ?_; refine sq qls ?_; refine sq (by exact Qt.cast (v' := .int .u64 ((ys.length : Nat) : Int)) (congrArg (Value.int .u64) (by omega)) (q_convU rfl)) ?_; refine se ?_; refine e_callX (OutL go b cap xs lg) (fun z : Option Addr × Nat => [.sl z.1 z.2 5 1 (x1.map (Value.int .u8)), .blk go (.cells #[.slice z.1 x1.length z.2, .bool l1] 91 (0, 0))]) rfl rfl (by kernel_rfl) rfl (by (repeat (first | exact Sp.nil | (apply Sp.cons; focus (repeat (first | exact Rm.here | apply Rm.there)))))) (fun w hC hm hA hL hap => by have h9 := num_c go b cap xs lg hxb hxn ho w hA ys.length (by omega); rw [← hx1, ← hl1] at h9; exact h9) (fun g hg => .inl hg) (fun z => by rfl) ?_; rintro ⟨b2, cap2⟩ m2 ho2 hn2 hm2; dsimp only at ho2 hn2 ⊢; refine l_nil ?_) | refine n_then ?_ | refine c_block ?_ | refine c_skip ?_ | refine n_block ?_ | refine c_exit ?_ | refine n_then_exit ?_ | refine n_block_eq ?_ | refine n_block_ne rfl ?_ | refine c_ret ?_ | refine n_then_ret ?_ | refine n_block_ret ?_ | refine c_cond_t rfl ?_ | refine c_cond_f rfl ?_ | refine r_succ ?_ )
    repeat (first | refine c_seq ?_ | (refine c_region (id := 3) ?_; refine sq qm ?_; refine sq qm ?_; refine se ?_; refine e_callX (OutL go b2 cap2 x1 l1) (fun z : Option Addr × Nat => [.sl z.1 z.2 5 1 (((pS x1 l1 ys).1).map (Value.int .u8)), .blk go (.cells #[.slice z.1 ((pS x1 l1 ys).1).length z.2, .bool (pS x1 l1 ys).2] 91 (0, 0))]) rfl rfl (by kernel_rfl) rfl (by (repeat (first | exact Sp.nil | (apply Sp.cons; focus (repeat (first | exact Rm.here | apply Rm.there)))))) (fun w hC hm hA hL hap => by exact raw_c go b2 cap2 x1 l1 hx1b hx1n ho2 w hA ya yl yc ys hyl hyc hyb hyn (hys.chn hC hyg) (notNew hyg hys hn2)) hn2 (fun z => by rfl) ?_; rintro ⟨b1, cap1⟩ m1 ho1 hn1 hm1; dsimp only at ho1 hn1 ⊢; refine l_nil ?_) | refine n_then ?_ | refine c_block ?_ | refine c_skip ?_ | refine n_block ?_ | refine c_exit ?_ | refine n_then_exit ?_ | refine n_block_eq ?_ | refine n_block_ne rfl ?_ | refine c_ret ?_ | refine n_then_ret ?_ | refine n_block_ret ?_ | refine c_cond_t rfl ?_ | refine c_cond_f rfl ?_ | refine r_succ ?_ )
    (first | apply r_ret (b1, cap1) | apply r_end (b1, cap1)); exact rfl; exact rfl; exact .nil; exact rfl; exact (by exact (by (repeat (first | exact List.nil_sublist _ | exact List.Sublist.slnil | apply List.Sublist.cons_cons | exact List.Sublist.refl _ | apply List.Sublist.cons)))); exact hn1; exact ho1
set_option maxRecDepth 100000 in
set_option maxHeartbeats 4000000 in
theorem endok_c (go : Nat) (b : Option Addr) (cap : Nat) (xs : List Int) (hxn : xs.length ≤ 100000) (w : World) (hO : Old w go 0 [.slice b xs.length cap, .bool false]) (hs : SlE (Value.int .u8) w b xs) :
    CA Tryd.prog 45 [.pointer (some ⟨go, 0, none⟩)] w (Ret (fun z : Option Addr × Nat => .tuple #[.slice z.1 xs.length z.2, .int .i64 0]) [] (fun z => [.sl z.1 z.2 5 1 (xs.map (Value.int .u8))]) (fun z => OS [] 0 z.1 z.2 xs.length) w) := by
  refine enter (L := []) (X := []) Tryd.func45 rfl Tryd.ntmps45 rfl rfl (Has.nil _) ?_
  repeat (first | refine c_seq ?_ | (refine c_region (id := 0) ?_; refine sq qa ?_; refine sq qa ?_; refine l_nil ?_) | (refine c_region (id := 1) ?_; refine sq qm ?_; refine sq qn ?_; refine sq qf ?_; refine sq (by exact q_load rfl (Rd.oldn (j := 1) hO (by rfl) (by simp))) ?_; refine l_nil ?_) | (refine c_region (id := 3) ?_; refine sq qm ?_; refine sq qn ?_; refine sq qf ?_; refine sq qf ?_; refine sq (by exact q_load rfl (Rd.oldn (j := 0) hO (by rfl) (by simp))) ?_; refine se ?_; refine e_callL rfl rfl (by kernel_rfl) rfl (fun w hC hm hL => by exact bclone_c b xs.length cap xs rfl (by omega) w (hs.ch0 hC)) ?_; intro b1 cap1 zs m1 hz1 ho1 hm1; replace hz1 := hz1.symm; subst hz1; refine sq qa ?_; refine sq qa ?_; refine l_nil ?_) | refine n_then ?_ | refine c_block ?_ | refine c_skip ?_ | refine n_block ?_ | refine c_exit ?_ | refine n_then_exit ?_ | refine n_block_eq ?_ | refine n_block_ne rfl ?_ | refine c_ret ?_ | refine n_then_ret ?_ | refine n_block_ret ?_ | refine c_cond_t rfl ?_ | refine c_cond_f rfl ?_ | refine r_succ ?_ )
  (first | apply r_ret (b1, cap1) | apply r_end (b1, cap1)); exact rfl; exact rfl; exact (.tmp rfl (.tmp rfl .nil)); exact rfl; exact (by exact (by (repeat (first | exact List.nil_sublist _ | exact List.Sublist.slnil | apply List.Sublist.cons_cons | exact List.Sublist.refl _ | apply List.Sublist.cons)))); exact (new_sl ho1.newc new_nil); exact ho1.any
end Go.Proofs.YtgmghkakiocmjaaDoor
namespace Go.Proofs.YtgmghkakiocmjaaDoor
open Go Go.RowKit
set_option linter.unusedVariables false
set_option linter.unusedSimpArgs false
abbrev InL (gi : Nat) (b : Option Addr) (cap : Nat) (xs : List Int) (lb : Option Addr) (ll lc : Nat) (bad : Bool) : List Chunk := [.sl b cap 5 1 (xs.map (Value.int .u8)), .blk gi (.cells #[.slice lb ll lc, .bool bad] 98 (0, 0))]
structure LV (b : Option Addr) (xs : List Int) (lb : Option Addr) (ll lc : Nat) : Prop where
  le : ll ≤ xs.length
  lc : ll ≤ lc
  at_ : 0 < ll → ∃ g, b = some ⟨g, 0, none⟩ ∧ lb = some ⟨g, xs.length - ll, none⟩
theorem LV.all {X : List Nat} {k : Nat} {b : Option Addr} {cap : Nat} {xs : List Int} (ho : OS X k b cap xs.length) : LV b xs b xs.length cap :=
  ⟨Nat.le_refl _, ho.le, fun h => by obtain ⟨g, rfl⟩ := ho.some h; exact ⟨g, rfl, by rw [Nat.sub_self]⟩⟩
theorem LV.cut {b lb : Option Addr} {xs : List Int} {ll lc : Nat} (h : LV b xs lb ll lc) (n : Nat) (hn : n ≤ ll) : LV b xs (if lc = n then lb else lb.map (·.add (n * 1))) (ll - n) (lc - n) := by
  refine ⟨by have := h.le; omega, by have := h.lc; omega, fun h0 => ?_⟩
  obtain ⟨g, e1, e2⟩ := h.at_ (by omega)
  refine ⟨g, e1, ?_⟩
  have := h.lc
  have := h.le
  rw [if_neg (by omega), e2]
  simp only [Option.map_some, Addr.add_mid, Nat.mul_one]
  congr 2
  omega
theorem LV.slE {b lb : Option Addr} {xs : List Int} {ll lc : Nat} (h : LV b xs lb ll lc) {w : World} (hs : SlE (Value.int .u8) w b xs) : SlE (Value.int .u8) w lb (xs.drop (xs.length - ll)) := by
  refine ⟨?_⟩
  rcases Nat.eq_zero_or_pos ll with h0 | h0
  · left; rw [h0, Nat.sub_zero, List.drop_length]
  · obtain ⟨g, e1, e2⟩ := h.at_ h0
    have hle := h.le
    obtain ⟨g2, o, e3, hO⟩ := hs.get (i := 0) (by omega)
    rw [e1] at e3
    cases e3
    right
    refine ⟨g, xs.length - ll, e2, ?_⟩
    have := hO.drp (xs.length - ll)
    rw [Nat.zero_add, ← List.map_drop] at this
    exact this
theorem LV.rest {b lb : Option Addr} {xs : List Int} {ll lc : Nat} (h : LV b xs lb ll lc) : (xs.drop (xs.length - ll)).length = ll := by have := h.le; simp; omega
set_option maxRecDepth 100000 in
set_option maxHeartbeats 4000000 in
theorem read_c (a : Option Addr) (len cap0 : Nat) (xs : List Int) (hxl : xs.length = len) (hbig : len ≤ 100000) (w : World) (hs : SlE (Value.int .u8) w a xs) :
    CA Tryd.prog 27 [.slice a len cap0] w (Ret (fun z : Nat × Option Addr × Nat => .pointer (some ⟨z.1, 0, none⟩)) [] (fun z => [.sl z.2.1 z.2.2 5 1 (xs.map (Value.int .u8)), .blk z.1 (.cells #[.slice z.2.1 xs.length z.2.2, .bool false] 98 (0, 0))]) (fun z => OS [] 0 z.2.1 z.2.2 xs.length) w) := by
  refine enter (L := []) (X := []) Tryd.func27 rfl Tryd.ntmps27 rfl rfl (Has.nil _) ?_
  repeat (first | refine c_seq ?_ | (refine c_region (id := 0) ?_; refine sq qa ?_; refine l_nil ?_) | (refine c_region (id := 1) ?_; refine sq qm ?_; refine se ?_; refine e_callL rfl rfl (by kernel_rfl) rfl (fun w hC hm hL => by exact bclone_c a len cap0 xs hxl (by omega) w (hs.ch0 hC)) ?_; intro b1 cap1 zs m1 hz1 ho1 hm1; replace hz1 := hz1.symm; subst hz1; refine sq qbs ?_; refine se ?_; refine eb ?_; refine sq qa ?_; refine l_nil ?_) | refine n_then ?_ | refine c_block ?_ | refine c_skip ?_ | refine n_block ?_ | refine c_exit ?_ | refine n_then_exit ?_ | refine n_block_eq ?_ | refine n_block_ne rfl ?_ | refine c_ret ?_ | refine n_then_ret ?_ | refine n_block_ret ?_ | refine c_cond_t rfl ?_ | refine c_cond_f rfl ?_ | refine r_succ ?_ )
  refine frn (c := .sl b1 cap1 5 1 (xs.map (Value.int .u8))) (by (repeat (first | exact Rm.here | apply Rm.there))) ?_
  (first | apply r_ret (m1, b1, cap1) | apply r_end (m1, b1, cap1)); exact rfl; exact rfl; exact (.tmp rfl .nil); exact rfl; exact (by exact (by (repeat (first | exact List.nil_sublist _ | exact List.Sublist.slnil | apply List.Sublist.cons_cons | exact List.Sublist.refl _ | apply List.Sublist.cons)))); exact (new_sl ho1.newc (new_blk (.inr hm1) new_nil)); exact ho1.any
set_option maxRecDepth 100000 in
set_option maxHeartbeats 4000000 in
theorem bad_c (gi : Nat) (v : Value) (bad : Bool) (w : World) (hO : Old w gi 0 [v, .bool bad]) : CA Tryd.prog 31 [.pointer (some ⟨gi, 0, none⟩)] w (RV (.bool bad) w) := by
  refine enter (L := []) (X := []) Tryd.func31 rfl Tryd.ntmps31 rfl rfl (Has.nil _) ?_
  repeat (first | refine c_seq ?_ | (refine c_region (id := 0) ?_; refine sq qa ?_; refine l_nil ?_) | (refine c_region (id := 1) ?_; refine sq qm ?_; refine sq qn ?_; refine sq qf ?_; refine sq (by exact q_load rfl (Rd.oldn (j := 1) hO (by rfl) (by simp))) ?_; refine sq qa ?_; refine l_nil ?_) | refine n_then ?_ | refine c_block ?_ | refine c_skip ?_ | refine n_block ?_ | refine c_exit ?_ | refine n_then_exit ?_ | refine n_block_eq ?_ | refine n_block_ne rfl ?_ | refine c_ret ?_ | refine n_then_ret ?_ | refine n_block_ret ?_ | refine c_cond_t rfl ?_ | refine c_cond_f rfl ?_ | refine r_succ ?_ )
  (first | apply r_ret () | apply r_end ()); exact rfl; exact rfl; exact (.tmp rfl .nil); exact rfl; exact (List.nil_sublist _); exact new_nil; exact trivial
set_option maxRecDepth 100000 in
set_option maxHeartbeats 4000000 in
theorem left_c (gi : Nat) (lb : Option Addr) (ll lc : Nat) (bad : Bool) (w : World) (hO : Old w gi 0 [.slice lb ll lc, .bool bad]) : CA Tryd.prog 29 [.pointer (some ⟨gi, 0, none⟩)] w (RV (.int .i64 (ll : Int)) w) := by
  refine enter (L := []) (X := []) Tryd.func29 rfl Tryd.ntmps29 rfl rfl (Has.nil _) ?_
  repeat (first | refine c_seq ?_ | (refine c_region (id := 0) ?_; refine sq qa ?_; refine l_nil ?_) | (refine c_region (id := 1) ?_; refine sq qm ?_; refine sq qn ?_; refine sq qf ?_; refine sq (by exact q_load rfl (Rd.oldn (j := 0) hO (by rfl) (by simp))) ?_; refine sq qls ?_; refine sq qa ?_; refine l_nil ?_) | refine n_then ?_ | refine c_block ?_ | refine c_skip ?_ | refine n_block ?_ | refine c_exit ?_ | refine n_then_exit ?_ | refine n_block_eq ?_ | refine n_block_ne rfl ?_ | refine c_ret ?_ | refine n_then_ret ?_ | refine n_block_ret ?_ | refine c_cond_t rfl ?_ | refine c_cond_f rfl ?_ | refine r_succ ?_ )
  (first | apply r_ret () | apply r_end ()); exact rfl; exact rfl; exact (.tmp rfl .nil); exact rfl; exact (List.nil_sublist _); exact new_nil; exact trivial
theorem pre_sl {w : World} {lb : Option Addr} {ys : List Int} {n lc : Nat} (hs : SlE (Value.int .u8) w lb ys) : SlE (Value.int .u8) w (if lc = 0 then lb else lb.map (·.add (0 * 1))) (ys.take n) := by
  have e : (if lc = 0 then lb else lb.map (·.add (0 * 1))) = lb ∨ ys.take n = [] := by
    rcases hs.h with h | ⟨g, o, e, _⟩
    · right; rw [h]; exact List.take_nil
    · left; rw [e]; split <;> rfl
  rcases e with e | e
  · rw [e]
    exact ⟨hs.h.imp (fun h => by rw [h]; exact List.take_nil) (fun ⟨g, o, e, hO⟩ => ⟨g, o, e, by rw [List.map_take]; exact hO.tak n⟩)⟩
  · rw [e]; exact SlE.nil
set_option maxRecDepth 100000 in
set_option maxHeartbeats 4000000 in
theorem iraw_c (gi : Nat) (b : Option Addr) (cap : Nat) (xs : List Int) (hxb : ∀ x ∈ xs, 0 ≤ x ∧ x ≤ 255) (hxn : xs.length ≤ 100000) (lb : Option Addr) (ll lc : Nat) (bad : Bool) (hv : LV b xs lb ll lc) (w : World) (ho : OS [] 0 b cap xs.length) (hL0 : Has (InL gi b cap xs lb ll lc false) w) (n : Nat) (hn : n ≤ ll) :
    CA Tryd.prog 50 [.pointer (some ⟨gi, 0, none⟩), .int .i64 (n : Int)] w (Ret (fun z : Option Addr × Nat × Option Addr => .slice z.1 n z.2.1) (feet (InL gi b cap xs lb ll lc false)) (fun z => .sl z.1 z.2.1 5 1 (((xs.drop (xs.length - ll)).take n).map (Value.int .u8)) :: InL gi b cap xs z.2.2 (ll - n) (lc - n) false) (fun z => OS [] 0 z.1 z.2.1 n ∧ LV b xs z.2.2 (ll - n) (lc - n)) w) := by
  have hlc := hv.lc
  have hle := hv.le
  have hpre : ∀ {w : World}, SlE (Value.int .u8) w lb (xs.drop (xs.length - ll)) → SlE (Value.int .u8) w (if lc = 0 then lb else lb.map (·.add (0 * 1))) ((xs.drop (xs.length - ll)).take n) := fun h => pre_sl h
  have htl : ((xs.drop (xs.length - ll)).take n).length = n := by rw [List.length_take, hv.rest]; omega
  refine enter (L := [.sl b cap 5 1 (xs.map (Value.int .u8)), .blk gi (.cells #[.slice lb ll lc, .bool false] 98 (0, 0))]) (X := feet (InL gi b cap xs lb ll lc false)) Tryd.func50 rfl Tryd.ntmps50 rfl rfl hL0 ?_
  repeat (first | refine c_seq ?_ | (refine c_region (id := 0) ?_; refine sq qa ?_; refine l_nil ?_) | (refine c_region (id := 1) ?_; refine sq qm ?_; refine sq qn ?_; refine sq qf ?_; refine sq ql ?_; refine sq qm ?_; (first | refine sk ?_ | refine skv ?_ | (refine st_want rfl rfl ?_; refine sq qm ?_)); (first | refine sk ?_ | refine skv ?_ | (refine st_want rfl rfl ?_; refine sq (by first | exact dlsst | exact dlssf) ?_)); refine sq (by first | exact qpt | exact qpf) ?_; refine sq qm ?_; (first | refine sk ?_ | refine skv ?_ | (refine st_want rfl rfl ?_; refine sq qm ?_)); (first | refine sk ?_ | refine skv ?_ | (refine st_want rfl rfl ?_; refine sq qm ?_)); (first | refine sk ?_ | refine skv ?_ | (refine st_want rfl rfl ?_; refine sq qn ?_)); (first | refine sk ?_ | refine skv ?_ | (refine st_want rfl rfl ?_; refine sq qf ?_)); (first | refine sk ?_ | refine skv ?_ | (refine st_want rfl rfl ?_; refine sq ql ?_)); (first | refine sk ?_ | refine skv ?_ | (refine st_want rfl rfl ?_; refine sq qls ?_)); (first | refine sk ?_ | refine skv ?_ | (refine st_want rfl rfl ?_; refine sq (by first | exact dgtrt | exact dgtrf) ?_)); refine sq (by first | exact qpt | exact qpf) ?_; refine l_nil ?_) | (refine c_region (id := 4) ?_; refine sq qm ?_; refine sq qn ?_; refine sq qf ?_; refine sq ql ?_; refine sq qm ?_; refine sq (by exact q_slice (b' := (if lc = 0 then lb else lb.map (·.add (0 * 1)))) (len' := n) (cap' := lc) rfl rfl rfl (by omega) (by omega) (by omega) (by omega) (by rfl) (by omega) (by omega)) ?_; refine se ?_; refine e_callL rfl rfl (by kernel_rfl) rfl (fun w hC hm hL => by exact bclone_c (if lc = 0 then lb else lb.map (·.add (0 * 1))) n lc ((xs.drop (xs.length - ll)).take n) (by rw [List.length_take, hv.rest]; omega) (by omega) w (hpre (hv.slE (SlE.own hL (by (repeat (first | exact List.Mem.head _ | apply List.Mem.tail))) ho)))) ?_; intro b1 cap1 zs m1 hz1 ho1 hm1; replace hz1 := hz1.symm; subst hz1; refine sq qa ?_; refine l_nil ?_) | refine n_then ?_ | refine c_block ?_ | refine c_skip ?_ | refine n_block ?_ | refine c_exit ?_ | refine n_then_exit ?_ | refine n_block_eq ?_ | refine n_block_ne rfl ?_ | refine c_ret ?_ | refine n_then_ret ?_ | refine n_block_ret ?_ | refine c_cond_t rfl ?_ | refine c_cond_f rfl ?_ | refine r_succ ?_ )
  rw [htl] at ho1 ⊢
  repeat (first | refine c_seq ?_ | (refine c_region (id := 5) ?_; refine sq qm ?_; refine sq qm ?_; refine sq qn ?_; refine sq qf ?_; refine sq ql ?_; refine sq qm ?_; refine sq (by exact q_slice (b' := (if lc = n then lb else lb.map (·.add (n * 1)))) (len' := ll - n) (cap' := lc - n) rfl rfl rfl (by omega) (by omega) (by omega) (by omega) (by rw [Int.toNat_natCast]) (by omega) (by omega)) ?_; refine sq qn ?_; refine sq qf ?_; refine se ?_; (refine e_store1l rfl rfl rfl (by (repeat (first | exact List.Mem.head _ | apply List.Mem.tail))) (by first | (simp only [setL]; try exact rfl) | exact rfl) (by (repeat (first | exact Pl.here | apply Pl.there))) rfl (.inl (by simp [feet, InL, Chunk.foot])) ?_); refine l_nil ?_) | (refine c_region (id := 6) ?_; refine sq qm ?_; refine sq qa ?_; refine l_nil ?_) | refine n_then ?_ | refine c_block ?_ | refine c_skip ?_ | refine n_block ?_ | refine c_exit ?_ | refine n_then_exit ?_ | refine n_block_eq ?_ | refine n_block_ne rfl ?_ | refine c_ret ?_ | refine n_then_ret ?_ | refine n_block_ret ?_ | refine c_cond_t rfl ?_ | refine c_cond_f rfl ?_ | refine r_succ ?_ )
  (first | apply r_ret (b1, cap1, if lc = n then lb else lb.map (·.add (n * 1))) | apply r_end (b1, cap1, if lc = n then lb else lb.map (·.add (n * 1)))); exact rfl; exact rfl; exact (.tmp rfl .nil); exact rfl; exact (by exact (by (repeat (first | exact List.nil_sublist _ | exact List.Sublist.slnil | apply List.Sublist.cons_cons | exact List.Sublist.refl _ | apply List.Sublist.cons)))); exact (new_sl ho1.newc (new_sl (fun g hg => .inl (by simp [feet, InL, hg])) (new_blk (.inl (by simp [feet, InL, Chunk.foot])) new_nil))); exact ⟨ho1.any, hv.cut n hn⟩
end Go.Proofs.YtgmghkakiocmjaaDoor
namespace Go.Proofs.YtgmghkakiocmjaaDoor
open Go Go.RowKit
set_option linter.unusedVariables false
set_option linter.unusedSimpArgs false
def numF : List Int → Nat → Nat → Nat × Nat
  | [], _, _ => (0, 0)
  | b :: bs, n, x =>
    if b.toNat < 128 then
      if b.toNat = 0 ∧ 0 < n then (0, 0)
      else if n = 9 ∧ 1 < b.toNat then (0, 0)
      else (x + b.toNat * 128 ^ n, n + 1)
    else if n = 9 then (0, 0)
    else numF bs (n + 1) (x + b.toNat % 128 * 128 ^ n)
def numX (ys : List Int) : Nat × Nat := numF ys 0 0
theorem or_join (x c n : Nat) (hx : x < 128 ^ n) (hn : n ≤ 9) (hc : c < 128) (h9 : n = 9 → c ≤ 1) : bits .or .u64 (x : Int) (((c : Nat) : Int) * 2 ^ ((7 * (n : Int)).toNat) % 18446744073709551616) = ((x + c * 128 ^ n : Nat) : Int) := by
  have e1 : (7 * (n : Int)).toNat = 7 * n := by omega
  have e2 : (2 : Nat) ^ (7 * n) = 128 ^ n := by rw [Nat.pow_mul]
  have hcb : c * 128 ^ n < 18446744073709551616 ∧ x < 18446744073709551616 := by
    rcases Nat.lt_or_ge n 9 with h | h
    · have h1 : 128 ^ n ≤ 128 ^ 8 := Nat.pow_le_pow_right (by omega) (by omega)
      have h2 : (128 : Nat) ^ 8 = 72057594037927936 := by decide
      have h3 : c * 128 ^ n ≤ 127 * 128 ^ n := Nat.mul_le_mul_right _ (by omega)
      omega
    · obtain rfl : n = 9 := by omega
      have h2 : (128 : Nat) ^ 9 = 9223372036854775808 := by decide
      have h3 : c * 128 ^ 9 ≤ 1 * 128 ^ 9 := Nat.mul_le_mul_right _ (h9 rfl)
      rw [h2] at hx h3 ⊢
      omega
  have e3 : ((c : Nat) : Int) * 2 ^ ((7 * (n : Int)).toNat) % 18446744073709551616 = ((c * 128 ^ n : Nat) : Int) := by
    rw [e1, ← e2]
    have := hcb.1
    rw [← e2] at this
    have h5 : ((c : Nat) : Int) * 2 ^ (7 * n) = ((c * 2 ^ (7 * n) : Nat) : Int) := by push_cast; rfl
    rw [h5]
    omega
  rw [e3, u64_or_nat x (c * 128 ^ n) hcb.2 hcb.1]
  congr 1
  rw [Nat.or_comm, nat_join (7 * n) (c * 128 ^ n) x (by rw [e2]; exact Nat.mul_mod_left _ _) (by rw [e2]; exact hx), Nat.add_comm]
theorem pow_lt_step {x c n : Nat} (hx : x < 128 ^ n) (hc : c < 128) : x + c * 128 ^ n < 128 ^ (n + 1) := by
  have h3 : c * 128 ^ n ≤ 127 * 128 ^ n := Nat.mul_le_mul_right _ (by omega)
  rw [Nat.pow_succ]
  omega
theorem drop_get {ys : List Int} {i : Nat} (h : i < ys.length) : ys.drop i = ys.getD i 0 :: ys.drop (i + 1) := by
  rw [List.drop_eq_getElem_cons h, List.getD_eq_getElem?_getD, List.getElem?_eq_getElem h]; rfl
set_option maxRecDepth 100000 in
set_option maxHeartbeats 4000000 in
theorem number_c (gi : Nat) (lb : Option Addr) (ll lc : Nat) (ys : List Int) (hyl : ys.length = ll) (hyb : ∀ y ∈ ys, 0 ≤ y ∧ y ≤ 255) (hyn : ll ≤ 100000) (w : World) (hO : Old w gi 0 [.slice lb ll lc, .bool false]) (hs : SlE (Value.int .u8) w lb ys) :
    CA Tryd.prog 49 [.pointer (some ⟨gi, 0, none⟩)] w (RV (.tuple #[.int .u64 ((numX ys).1 : Int), .int .i64 ((numX ys).2 : Int)]) w) := by
  refine enter (L := []) (X := []) Tryd.func49 rfl Tryd.ntmps49 rfl rfl (Has.nil _) ?_
  repeat (first | refine c_seq ?_ | (refine c_region (id := 0) ?_; refine sq qa ?_; refine sq qa ?_; refine l_nil ?_) | (refine c_region (id := 1) ?_; refine sq qm ?_; refine sq qn ?_; refine sq qf ?_; refine sq (by exact q_load rfl (Rd.oldn (j := 1) hO (by rfl) (by simp))) ?_; refine l_nil ?_) | (refine c_region (id := 3) ?_; refine sq qa ?_; refine l_nil ?_) | (refine c_region (id := 4) ?_; refine sq qm ?_; refine sq qn ?_; refine sq qf ?_; refine sq (by exact q_load rfl (Rd.oldn (j := 0) hO (by rfl) (by simp))) ?_; refine sq qls ?_; refine sq qm ?_; refine l_nil ?_) | refine n_then ?_ | refine c_block ?_ | refine c_skip ?_ | refine n_block ?_ | refine c_exit ?_ | refine n_then_exit ?_ | refine n_block_eq ?_ | refine n_block_ne rfl ?_ | refine c_ret ?_ | refine n_then_ret ?_ | refine n_block_ret ?_ | refine c_cond_t rfl ?_ | refine c_cond_f rfl ?_ | refine r_succ ?_ )
  refine c_loop (γ := Nat × Nat) (fun z => [(17, .int .i64 ((z.1 : Nat) : Int)), (16, .int .i64 (ll : Int)), (15, .slice lb ll lc), (4, .int .u64 ((z.2 : Nat) : Int)), (3, .int .i64 0), (2, .int .u64 0)]) (fun _ => w.heap.size) (fun _ => []) (fun z => z.1 ≤ ll ∧ numX ys = numF (ys.drop z.1) z.1 z.2 ∧ z.2 < 128 ^ z.1 ∧ z.1 ≤ 9) (fun z => ll - z.1) ⟨0, 0⟩ ⟨by omega, rfl, by simp, by simp⟩ ⟨rfl, rfl, rfl, rfl, rfl, rfl, trivial⟩ rfl (by (repeat (first | exact List.nil_sublist _ | exact List.Sublist.slnil | apply List.Sublist.cons_cons | exact List.Sublist.refl _ | apply List.Sublist.cons))) ?_
  rintro ⟨i, x⟩ ⟨hi, hnx, hxi, hi9⟩
  dsimp only at hi hnx hxi hi9 ⊢
  by_cases h1 : i < ll
  · obtain ⟨g, o, rfl, hOk⟩ := hs.get (i := i) (by omega)
    obtain ⟨y, hye⟩ : ∃ y, y = ys.getD i 0 := ⟨_, rfl⟩
    have hyi : ys[i]? = some y := by rw [hye, List.getD_eq_getElem?_getD, List.getElem?_eq_getElem (by omega), Option.getD_some]
    have hy0 := hyb y (List.mem_of_getElem? hyi)
    obtain ⟨c, rfl⟩ : ∃ c : Nat, y = (c : Int) := ⟨y.toNat, by omega⟩
    have hc : c ≤ 255 := by omega
    have hz : nth (ys.map (Value.int .u8)) i = some (.int .u8 (c : Int)) := nth_map hyi
    have hst : numF (ys.drop i) i x = if c < 128 then if c = 0 ∧ 0 < i then (0, 0) else if i = 9 ∧ 1 < c then (0, 0) else (x + c * 128 ^ i, i + 1) else if i = 9 then (0, 0) else numF (ys.drop (i + 1)) (i + 1) (x + c % 128 * 128 ^ i) := by
      rw [drop_get (by omega), ← hye]; simp only [numF, Int.toNat_natCast]
    rw [hst] at hnx
    by_cases hlt : c < 128
    · rw [if_pos hlt] at hnx
      by_cases hz0 : c = 0 ∧ 0 < i
      · rw [if_pos hz0] at hnx
        obtain ⟨hz1, hz2⟩ := hz0
        rw [hnx]
        repeat (first | refine c_seq ?_ | (refine c_region (id := 5) ?_; refine sq (by first | exact dlsst | exact dlssf) ?_; refine l_nil ?_) | (refine c_region (id := 6) ?_; refine sq qm ?_; refine sq (by exact q_indexAddr_sl (o' := o + i) rfl rfl (by omega) (by omega) (by omega)) ?_; refine sq ql ?_; refine sq qa ?_; refine sq qa ?_; refine l_nil ?_) | (refine c_region (id := 7) ?_; refine sq qm ?_; refine sq (by first | exact dlsst | exact dlssf) ?_; refine sq qa ?_; refine l_nil ?_) | (refine c_region (id := 8) ?_; refine sq qm ?_; refine sq qm ?_; (first | refine sk ?_ | refine skv ?_ | (refine st_want rfl rfl ?_; refine sq qm ?_)); (first | refine sk ?_ | refine skv ?_ | (refine st_want rfl rfl ?_; refine sq (by first | exact deqlt | exact deqlf) ?_)); refine sq (by first | exact qpt | exact qpf) ?_; refine sq qm ?_; (first | refine sk ?_ | refine skv ?_ | (refine st_want rfl rfl ?_; refine sq qm ?_)); (first | refine sk ?_ | refine skv ?_ | (refine st_want rfl rfl ?_; refine sq (by first | exact dgtrt | exact dgtrf) ?_)); refine sq (by first | exact qpt | exact qpf) ?_; refine sq qa ?_; refine l_nil ?_) | (refine c_region (id := 9) ?_; refine sq qa ?_; refine sq qa ?_; refine l_nil ?_) | refine n_then ?_ | refine c_block ?_ | refine c_skip ?_ | refine n_block ?_ | refine c_exit ?_ | refine n_then_exit ?_ | refine n_block_eq ?_ | refine n_block_ne rfl ?_ | refine c_ret ?_ | refine n_then_ret ?_ | refine n_block_ret ?_ | refine c_cond_t rfl ?_ | refine c_cond_f rfl ?_ | refine r_succ ?_ )
        (first | apply r_ret () | apply r_end ()); exact rfl; exact rfl; exact (.tmp rfl (.tmp rfl .nil)); exact rfl; exact (List.nil_sublist _); exact new_nil; exact trivial
      · rw [if_neg hz0] at hnx
        by_cases h9 : i = 9 ∧ 1 < c
        · rw [if_pos h9] at hnx
          obtain ⟨h91, h92⟩ := h9
          rw [hnx]
          repeat (first | refine c_seq ?_ | (refine c_region (id := 5) ?_; refine sq (by first | exact dlsst | exact dlssf) ?_; refine l_nil ?_) | (refine c_region (id := 6) ?_; refine sq qm ?_; refine sq (by exact q_indexAddr_sl (o' := o + i) rfl rfl (by omega) (by omega) (by omega)) ?_; refine sq ql ?_; refine sq qa ?_; refine sq qa ?_; refine l_nil ?_) | (refine c_region (id := 7) ?_; refine sq qm ?_; refine sq (by first | exact dlsst | exact dlssf) ?_; refine sq qa ?_; refine l_nil ?_) | (refine c_region (id := 8) ?_; refine sq qm ?_; refine sq qm ?_; (first | refine sk ?_ | refine skv ?_ | (refine st_want rfl rfl ?_; refine sq qm ?_)); (first | refine sk ?_ | refine skv ?_ | (refine st_want rfl rfl ?_; refine sq (by first | exact deqlt | exact deqlf) ?_)); refine sq (by first | exact qpt | exact qpf) ?_; refine sq qm ?_; (first | refine sk ?_ | refine skv ?_ | (refine st_want rfl rfl ?_; refine sq qm ?_)); (first | refine sk ?_ | refine skv ?_ | (refine st_want rfl rfl ?_; refine sq (by first | exact dgtrt | exact dgtrf) ?_)); refine sq (by first | exact qpt | exact qpf) ?_; refine sq qa ?_; refine l_nil ?_) | (refine c_region (id := 10) ?_; refine sq qm ?_; refine sq (by first | exact deqlt | exact deqlf) ?_; refine sq qm ?_; (first | refine sk ?_ | refine skv ?_ | (refine st_want rfl rfl ?_; refine sq qm ?_)); (first | refine sk ?_ | refine skv ?_ | (refine st_want rfl rfl ?_; refine sq (by first | exact dgtrt | exact dgtrf) ?_)); refine sq (by first | exact qpt | exact qpf) ?_; refine sq qa ?_; refine l_nil ?_) | (refine c_region (id := 11) ?_; refine sq qa ?_; refine sq qa ?_; refine l_nil ?_) | refine n_then ?_ | refine c_block ?_ | refine c_skip ?_ | refine n_block ?_ | refine c_exit ?_ | refine n_then_exit ?_ | refine n_block_eq ?_ | refine n_block_ne rfl ?_ | refine c_ret ?_ | refine n_then_ret ?_ | refine n_block_ret ?_ | refine c_cond_t rfl ?_ | refine c_cond_f rfl ?_ | refine r_succ ?_ )
          (first | apply r_ret () | apply r_end ()); exact rfl; exact rfl; exact (.tmp rfl (.tmp rfl .nil)); exact rfl; exact (List.nil_sublist _); exact new_nil; exact trivial
        · rw [if_neg h9] at hnx
          have hc9 : i = 9 → c % 128 ≤ 1 := fun h => by omega
          have hcm : c % 128 = c := by omega
          rw [hnx]
          by_cases hc0 : c = 0
          · have hi0 : i = 0 := by omega
            repeat (first | refine c_seq ?_ | (refine c_region (id := 5) ?_; refine sq (by first | exact dlsst | exact dlssf) ?_; refine l_nil ?_) | (refine c_region (id := 6) ?_; refine sq qm ?_; refine sq (by exact q_indexAddr_sl (o' := o + i) rfl rfl (by omega) (by omega) (by omega)) ?_; refine sq ql ?_; refine sq qa ?_; refine sq qa ?_; refine l_nil ?_) | (refine c_region (id := 7) ?_; refine sq qm ?_; refine sq (by first | exact dlsst | exact dlssf) ?_; refine sq qa ?_; refine l_nil ?_) | (refine c_region (id := 8) ?_; refine sq qm ?_; refine sq qm ?_; (first | refine sk ?_ | refine skv ?_ | (refine st_want rfl rfl ?_; refine sq qm ?_)); (first | refine sk ?_ | refine skv ?_ | (refine st_want rfl rfl ?_; refine sq (by first | exact deqlt | exact deqlf) ?_)); refine sq (by first | exact qpt | exact qpf) ?_; refine sq qm ?_; (first | refine sk ?_ | refine skv ?_ | (refine st_want rfl rfl ?_; refine sq qm ?_)); (first | refine sk ?_ | refine skv ?_ | (refine st_want rfl rfl ?_; refine sq (by first | exact dgtrt | exact dgtrf) ?_)); refine sq (by first | exact qpt | exact qpf) ?_; refine sq qa ?_; refine l_nil ?_) | (refine c_region (id := 10) ?_; refine sq qm ?_; refine sq (by first | exact deqlt | exact deqlf) ?_; refine sq qm ?_; (first | refine sk ?_ | refine skv ?_ | (refine st_want rfl rfl ?_; refine sq qm ?_)); (first | refine sk ?_ | refine skv ?_ | (refine st_want rfl rfl ?_; refine sq (by first | exact dgtrt | exact dgtrf) ?_)); refine sq (by first | exact qpt | exact qpf) ?_; refine sq qa ?_; refine l_nil ?_) | (refine c_region (id := 12) ?_; refine sq qm ?_; refine sq qm ?_; refine sq (by exact Qt.cast (v' := .int .u8 ((c % 128 : Nat) : Int)) (congrArg (Value.int .u8) (by omega)) (q_rem rfl rfl (by omega) (by omega))) ?_; refine sq (by exact Qt.cast (v' := .int .u64 ((c % 128 : Nat) : Int)) (congrArg (Value.int .u64) (by omega)) (q_convU rfl)) ?_; refine sq qm ?_; refine sq qmul64 ?_; refine sq (by exact q_shlU rfl rfl (by omega) (by omega)) ?_; refine sq (by exact Qt.cast (v' := .int .u64 ((x + c % 128 * 128 ^ i : Nat) : Int)) (congrArg (Value.int .u64) (or_join x (c % 128) i hxi hi9 (by omega) hc9)) (q_or rfl rfl)) ?_; refine sq qa ?_; refine l_nil ?_) | refine n_then ?_ | refine c_block ?_ | refine c_skip ?_ | refine n_block ?_ | refine c_exit ?_ | refine n_then_exit ?_ | refine n_block_eq ?_ | refine n_block_ne rfl ?_ | refine c_ret ?_ | refine n_then_ret ?_ | refine n_block_ret ?_ | refine c_cond_t rfl ?_ | refine c_cond_f rfl ?_ | refine r_succ ?_ )
            rw [hcm]
            repeat (first | refine c_seq ?_ | (refine c_region (id := 13) ?_; refine sq qm ?_; refine l_nil ?_) | (refine c_region (id := 14) ?_; refine sq qm ?_; refine sq qm ?_; refine sq (by exact Qt.cast (v' := .int .i64 ((i + 1 : Nat) : Int)) (congrArg (Value.int .i64) (by omega)) (q_add64 rfl rfl ⟨by omega, by omega⟩ rfl)) ?_; refine sq qa ?_; refine sq qa ?_; refine l_nil ?_) | refine n_then ?_ | refine c_block ?_ | refine c_skip ?_ | refine n_block ?_ | refine c_exit ?_ | refine n_then_exit ?_ | refine n_block_eq ?_ | refine n_block_ne rfl ?_ | refine c_ret ?_ | refine n_then_ret ?_ | refine n_block_ret ?_ | refine c_cond_t rfl ?_ | refine c_cond_f rfl ?_ | refine r_succ ?_ )
            (first | apply r_ret () | apply r_end ()); exact rfl; exact rfl; exact (.tmp rfl (.tmp rfl .nil)); exact rfl; exact (List.nil_sublist _); exact new_nil; exact trivial
          · by_cases hi9e : i = 9
            · repeat (first | refine c_seq ?_ | (refine c_region (id := 5) ?_; refine sq (by first | exact dlsst | exact dlssf) ?_; refine l_nil ?_) | (refine c_region (id := 6) ?_; refine sq qm ?_; refine sq (by exact q_indexAddr_sl (o' := o + i) rfl rfl (by omega) (by omega) (by omega)) ?_; refine sq ql ?_; refine sq qa ?_; refine sq qa ?_; refine l_nil ?_) | (refine c_region (id := 7) ?_; refine sq qm ?_; refine sq (by first | exact dlsst | exact dlssf) ?_; refine sq qa ?_; refine l_nil ?_) | (refine c_region (id := 8) ?_; refine sq qm ?_; refine sq qm ?_; (first | refine sk ?_ | refine skv ?_ | (refine st_want rfl rfl ?_; refine sq qm ?_)); (first | refine sk ?_ | refine skv ?_ | (refine st_want rfl rfl ?_; refine sq (by first | exact deqlt | exact deqlf) ?_)); refine sq (by first | exact qpt | exact qpf) ?_; refine sq qm ?_; (first | refine sk ?_ | refine skv ?_ | (refine st_want rfl rfl ?_; refine sq qm ?_)); (first | refine sk ?_ | refine skv ?_ | (refine st_want rfl rfl ?_; refine sq (by first | exact dgtrt | exact dgtrf) ?_)); refine sq (by first | exact qpt | exact qpf) ?_; refine sq qa ?_; refine l_nil ?_) | (refine c_region (id := 10) ?_; refine sq qm ?_; refine sq (by first | exact deqlt | exact deqlf) ?_; refine sq qm ?_; (first | refine sk ?_ | refine skv ?_ | (refine st_want rfl rfl ?_; refine sq qm ?_)); (first | refine sk ?_ | refine skv ?_ | (refine st_want rfl rfl ?_; refine sq (by first | exact dgtrt | exact dgtrf) ?_)); refine sq (by first | exact qpt | exact qpf) ?_; refine sq qa ?_; refine l_nil ?_) | (refine c_region (id := 12) ?_; refine sq qm ?_; refine sq qm ?_; refine sq (by exact Qt.cast (v' := .int .u8 ((c % 128 : Nat) : Int)) (congrArg (Value.int .u8) (by omega)) (q_rem rfl rfl (by omega) (by omega))) ?_; refine sq (by exact Qt.cast (v' := .int .u64 ((c % 128 : Nat) : Int)) (congrArg (Value.int .u64) (by omega)) (q_convU rfl)) ?_; refine sq qm ?_; refine sq qmul64 ?_; refine sq (by exact q_shlU rfl rfl (by omega) (by omega)) ?_; refine sq (by exact Qt.cast (v' := .int .u64 ((x + c % 128 * 128 ^ i : Nat) : Int)) (congrArg (Value.int .u64) (or_join x (c % 128) i hxi hi9 (by omega) hc9)) (q_or rfl rfl)) ?_; refine sq qa ?_; refine l_nil ?_) | refine n_then ?_ | refine c_block ?_ | refine c_skip ?_ | refine n_block ?_ | refine c_exit ?_ | refine n_then_exit ?_ | refine n_block_eq ?_ | refine n_block_ne rfl ?_ | refine c_ret ?_ | refine n_then_ret ?_ | refine n_block_ret ?_ | refine c_cond_t rfl ?_ | refine c_cond_f rfl ?_ | refine r_succ ?_ )
              rw [hcm]
              repeat (first | refine c_seq ?_ | (refine c_region (id := 13) ?_; refine sq qm ?_; refine l_nil ?_) | (refine c_region (id := 14) ?_; refine sq qm ?_; refine sq qm ?_; refine sq (by exact Qt.cast (v' := .int .i64 ((i + 1 : Nat) : Int)) (congrArg (Value.int .i64) (by omega)) (q_add64 rfl rfl ⟨by omega, by omega⟩ rfl)) ?_; refine sq qa ?_; refine sq qa ?_; refine l_nil ?_) | refine n_then ?_ | refine c_block ?_ | refine c_skip ?_ | refine n_block ?_ | refine c_exit ?_ | refine n_then_exit ?_ | refine n_block_eq ?_ | refine n_block_ne rfl ?_ | refine c_ret ?_ | refine n_then_ret ?_ | refine n_block_ret ?_ | refine c_cond_t rfl ?_ | refine c_cond_f rfl ?_ | refine r_succ ?_ )
              (first | apply r_ret () | apply r_end ()); exact rfl; exact rfl; exact (.tmp rfl (.tmp rfl .nil)); exact rfl; exact (List.nil_sublist _); exact new_nil; exact trivial
            · repeat (first | refine c_seq ?_ | (refine c_region (id := 5) ?_; refine sq (by first | exact dlsst | exact dlssf) ?_; refine l_nil ?_) | (refine c_region (id := 6) ?_; refine sq qm ?_; refine sq (by exact q_indexAddr_sl (o' := o + i) rfl rfl (by omega) (by omega) (by omega)) ?_; refine sq ql ?_; refine sq qa ?_; refine sq qa ?_; refine l_nil ?_) | (refine c_region (id := 7) ?_; refine sq qm ?_; refine sq (by first | exact dlsst | exact dlssf) ?_; refine sq qa ?_; refine l_nil ?_) | (refine c_region (id := 8) ?_; refine sq qm ?_; refine sq qm ?_; (first | refine sk ?_ | refine skv ?_ | (refine st_want rfl rfl ?_; refine sq qm ?_)); (first | refine sk ?_ | refine skv ?_ | (refine st_want rfl rfl ?_; refine sq (by first | exact deqlt | exact deqlf) ?_)); refine sq (by first | exact qpt | exact qpf) ?_; refine sq qm ?_; (first | refine sk ?_ | refine skv ?_ | (refine st_want rfl rfl ?_; refine sq qm ?_)); (first | refine sk ?_ | refine skv ?_ | (refine st_want rfl rfl ?_; refine sq (by first | exact dgtrt | exact dgtrf) ?_)); refine sq (by first | exact qpt | exact qpf) ?_; refine sq qa ?_; refine l_nil ?_) | (refine c_region (id := 10) ?_; refine sq qm ?_; refine sq (by first | exact deqlt | exact deqlf) ?_; refine sq qm ?_; (first | refine sk ?_ | refine skv ?_ | (refine st_want rfl rfl ?_; refine sq qm ?_)); (first | refine sk ?_ | refine skv ?_ | (refine st_want rfl rfl ?_; refine sq (by first | exact dgtrt | exact dgtrf) ?_)); refine sq (by first | exact qpt | exact qpf) ?_; refine sq qa ?_; refine l_nil ?_) | (refine c_region (id := 12) ?_; refine sq qm ?_; refine sq qm ?_; refine sq (by exact Qt.cast (v' := .int .u8 ((c % 128 : Nat) : Int)) (congrArg (Value.int .u8) (by omega)) (q_rem rfl rfl (by omega) (by omega))) ?_; refine sq (by exact Qt.cast (v' := .int .u64 ((c % 128 : Nat) : Int)) (congrArg (Value.int .u64) (by omega)) (q_convU rfl)) ?_; refine sq qm ?_; refine sq qmul64 ?_; refine sq (by exact q_shlU rfl rfl (by omega) (by omega)) ?_; refine sq (by exact Qt.cast (v' := .int .u64 ((x + c % 128 * 128 ^ i : Nat) : Int)) (congrArg (Value.int .u64) (or_join x (c % 128) i hxi hi9 (by omega) hc9)) (q_or rfl rfl)) ?_; refine sq qa ?_; refine l_nil ?_) | refine n_then ?_ | refine c_block ?_ | refine c_skip ?_ | refine n_block ?_ | refine c_exit ?_ | refine n_then_exit ?_ | refine n_block_eq ?_ | refine n_block_ne rfl ?_ | refine c_ret ?_ | refine n_then_ret ?_ | refine n_block_ret ?_ | refine c_cond_t rfl ?_ | refine c_cond_f rfl ?_ | refine r_succ ?_ )
              rw [hcm]
              repeat (first | refine c_seq ?_ | (refine c_region (id := 13) ?_; refine sq qm ?_; refine l_nil ?_) | (refine c_region (id := 14) ?_; refine sq qm ?_; refine sq qm ?_; refine sq (by exact Qt.cast (v' := .int .i64 ((i + 1 : Nat) : Int)) (congrArg (Value.int .i64) (by omega)) (q_add64 rfl rfl ⟨by omega, by omega⟩ rfl)) ?_; refine sq qa ?_; refine sq qa ?_; refine l_nil ?_) | refine n_then ?_ | refine c_block ?_ | refine c_skip ?_ | refine n_block ?_ | refine c_exit ?_ | refine n_then_exit ?_ | refine n_block_eq ?_ | refine n_block_ne rfl ?_ | refine c_ret ?_ | refine n_then_ret ?_ | refine n_block_ret ?_ | refine c_cond_t rfl ?_ | refine c_cond_f rfl ?_ | refine r_succ ?_ )
              (first | apply r_ret () | apply r_end ()); exact rfl; exact rfl; exact (.tmp rfl (.tmp rfl .nil)); exact rfl; exact (List.nil_sublist _); exact new_nil; exact trivial
    · rw [if_neg hlt] at hnx
      by_cases h9 : i = 9
      · rw [if_pos h9] at hnx
        rw [hnx]
        repeat (first | refine c_seq ?_ | (refine c_region (id := 5) ?_; refine sq (by first | exact dlsst | exact dlssf) ?_; refine l_nil ?_) | (refine c_region (id := 6) ?_; refine sq qm ?_; refine sq (by exact q_indexAddr_sl (o' := o + i) rfl rfl (by omega) (by omega) (by omega)) ?_; refine sq ql ?_; refine sq qa ?_; refine sq qa ?_; refine l_nil ?_) | (refine c_region (id := 7) ?_; refine sq qm ?_; refine sq (by first | exact dlsst | exact dlssf) ?_; refine sq qa ?_; refine l_nil ?_) | (refine c_region (id := 8) ?_; refine sq qm ?_; refine sq qm ?_; (first | refine sk ?_ | refine skv ?_ | (refine st_want rfl rfl ?_; refine sq qm ?_)); (first | refine sk ?_ | refine skv ?_ | (refine st_want rfl rfl ?_; refine sq (by first | exact deqlt | exact deqlf) ?_)); refine sq (by first | exact qpt | exact qpf) ?_; refine sq qm ?_; (first | refine sk ?_ | refine skv ?_ | (refine st_want rfl rfl ?_; refine sq qm ?_)); (first | refine sk ?_ | refine skv ?_ | (refine st_want rfl rfl ?_; refine sq (by first | exact dgtrt | exact dgtrf) ?_)); refine sq (by first | exact qpt | exact qpf) ?_; refine sq qa ?_; refine l_nil ?_) | (refine c_region (id := 10) ?_; refine sq qm ?_; refine sq (by first | exact deqlt | exact deqlf) ?_; refine sq qm ?_; (first | refine sk ?_ | refine skv ?_ | (refine st_want rfl rfl ?_; refine sq qm ?_)); (first | refine sk ?_ | refine skv ?_ | (refine st_want rfl rfl ?_; refine sq (by first | exact dgtrt | exact dgtrf) ?_)); refine sq (by first | exact qpt | exact qpf) ?_; refine sq qa ?_; refine l_nil ?_) | (refine c_region (id := 11) ?_; refine sq qa ?_; refine sq qa ?_; refine l_nil ?_) | refine n_then ?_ | refine c_block ?_ | refine c_skip ?_ | refine n_block ?_ | refine c_exit ?_ | refine n_then_exit ?_ | refine n_block_eq ?_ | refine n_block_ne rfl ?_ | refine c_ret ?_ | refine n_then_ret ?_ | refine n_block_ret ?_ | refine c_cond_t rfl ?_ | refine c_cond_f rfl ?_ | refine r_succ ?_ )
        (first | apply r_ret () | apply r_end ()); exact rfl; exact rfl; exact (.tmp rfl (.tmp rfl .nil)); exact rfl; exact (List.nil_sublist _); exact new_nil; exact trivial
      · rw [if_neg h9] at hnx
        have hc9 : i = 9 → c % 128 ≤ 1 := fun h => absurd h h9
        have hpl := pow_lt_step (n := i) hxi (show c % 128 < 128 by omega)
        repeat (first | refine c_seq ?_ | (refine c_region (id := 5) ?_; refine sq (by first | exact dlsst | exact dlssf) ?_; refine l_nil ?_) | (refine c_region (id := 6) ?_; refine sq qm ?_; refine sq (by exact q_indexAddr_sl (o' := o + i) rfl rfl (by omega) (by omega) (by omega)) ?_; refine sq ql ?_; refine sq qa ?_; refine sq qa ?_; refine l_nil ?_) | (refine c_region (id := 7) ?_; refine sq qm ?_; refine sq (by first | exact dlsst | exact dlssf) ?_; refine sq qa ?_; refine l_nil ?_) | (refine c_region (id := 8) ?_; refine sq qm ?_; refine sq qm ?_; (first | refine sk ?_ | refine skv ?_ | (refine st_want rfl rfl ?_; refine sq qm ?_)); (first | refine sk ?_ | refine skv ?_ | (refine st_want rfl rfl ?_; refine sq (by first | exact deqlt | exact deqlf) ?_)); refine sq (by first | exact qpt | exact qpf) ?_; refine sq qm ?_; (first | refine sk ?_ | refine skv ?_ | (refine st_want rfl rfl ?_; refine sq qm ?_)); (first | refine sk ?_ | refine skv ?_ | (refine st_want rfl rfl ?_; refine sq (by first | exact dgtrt | exact dgtrf) ?_)); refine sq (by first | exact qpt | exact qpf) ?_; refine sq qa ?_; refine l_nil ?_) | (refine c_region (id := 10) ?_; refine sq qm ?_; refine sq (by first | exact deqlt | exact deqlf) ?_; refine sq qm ?_; (first | refine sk ?_ | refine skv ?_ | (refine st_want rfl rfl ?_; refine sq qm ?_)); (first | refine sk ?_ | refine skv ?_ | (refine st_want rfl rfl ?_; refine sq (by first | exact dgtrt | exact dgtrf) ?_)); refine sq (by first | exact qpt | exact qpf) ?_; refine sq qa ?_; refine l_nil ?_) | (refine c_region (id := 12) ?_; refine sq qm ?_; refine sq qm ?_; refine sq (by exact Qt.cast (v' := .int .u8 ((c % 128 : Nat) : Int)) (congrArg (Value.int .u8) (by omega)) (q_rem rfl rfl (by omega) (by omega))) ?_; refine sq (by exact Qt.cast (v' := .int .u64 ((c % 128 : Nat) : Int)) (congrArg (Value.int .u64) (by omega)) (q_convU rfl)) ?_; refine sq qm ?_; refine sq qmul64 ?_; refine sq (by exact q_shlU rfl rfl (by omega) (by omega)) ?_; refine sq (by exact Qt.cast (v' := .int .u64 ((x + c % 128 * 128 ^ i : Nat) : Int)) (congrArg (Value.int .u64) (or_join x (c % 128) i hxi hi9 (by omega) hc9)) (q_or rfl rfl)) ?_; refine sq qa ?_; refine l_nil ?_) | (refine c_region (id := 13) ?_; refine sq qm ?_; refine l_nil ?_) | (refine c_region (id := 15) ?_; refine sq (by exact Qt.cast (v' := .int .i64 ((i + 1 : Nat) : Int)) (congrArg (Value.int .i64) (by omega)) (q_add64 rfl rfl ⟨by omega, by omega⟩ rfl)) ?_; refine sq qm ?_; refine l_nil ?_) | refine n_then ?_ | refine c_block ?_ | refine c_skip ?_ | refine n_block ?_ | refine c_exit ?_ | refine n_then_exit ?_ | refine n_block_eq ?_ | refine n_block_ne rfl ?_ | refine c_ret ?_ | refine n_then_ret ?_ | refine n_block_ret ?_ | refine c_cond_t rfl ?_ | refine c_cond_f rfl ?_ | refine r_succ ?_ )
        refine c_round ⟨i + 1, x + c % 128 * 128 ^ i⟩ ⟨by dsimp only; omega, hnx, hpl, by dsimp only; omega⟩ (by dsimp only; omega) ⟨rfl, rfl, rfl, rfl, rfl, rfl, trivial⟩ (by rfl) (by (repeat (first | exact List.nil_sublist _ | exact List.Sublist.slnil | apply List.Sublist.cons_cons | exact List.Sublist.refl _ | apply List.Sublist.cons)))
  · have hx0 : numX ys = (0, 0) := by rw [hnx, List.drop_of_length_le (by omega)]; rfl
    rw [hx0]
    repeat (first | refine c_seq ?_ | (refine c_region (id := 5) ?_; refine sq (by first | exact dlsst | exact dlssf) ?_; refine l_nil ?_) | (refine c_region (id := 16) ?_; refine sq qa ?_; refine sq qa ?_; refine l_nil ?_) | refine n_then ?_ | refine c_block ?_ | refine c_skip ?_ | refine n_block ?_ | refine c_exit ?_ | refine n_then_exit ?_ | refine n_block_eq ?_ | refine n_block_ne rfl ?_ | refine c_ret ?_ | refine n_then_ret ?_ | refine n_block_ret ?_ | refine c_cond_t rfl ?_ | refine c_cond_f rfl ?_ | refine r_succ ?_ )
    (first | apply r_ret () | apply r_end ()); exact rfl; exact rfl; exact (.tmp rfl (.tmp rfl .nil)); exact rfl; exact (List.nil_sublist _); exact new_nil; exact trivial
set_option maxRecDepth 100000 in
set_option maxHeartbeats 4000000 in
theorem numbad_c (gi : Nat) (v : Value) (w : World) (hO : Old w gi 0 [v, .bool true]) :
    CA Tryd.prog 49 [.pointer (some ⟨gi, 0, none⟩)] w (RV (.tuple #[.int .u64 0, .int .i64 0]) w) := by
  refine enter (L := []) (X := []) Tryd.func49 rfl Tryd.ntmps49 rfl rfl (Has.nil _) ?_
  repeat (first | refine c_seq ?_ | (refine c_region (id := 0) ?_; refine sq qa ?_; refine sq qa ?_; refine l_nil ?_) | (refine c_region (id := 1) ?_; refine sq qm ?_; refine sq qn ?_; refine sq qf ?_; refine sq (by exact q_load rfl (Rd.oldn (j := 1) hO (by rfl) (by simp))) ?_; refine l_nil ?_) | (refine c_region (id := 2) ?_; refine sq qa ?_; refine sq qa ?_; refine l_nil ?_) | refine n_then ?_ | refine c_block ?_ | refine c_skip ?_ | refine n_block ?_ | refine c_exit ?_ | refine n_then_exit ?_ | refine n_block_eq ?_ | refine n_block_ne rfl ?_ | refine c_ret ?_ | refine n_then_ret ?_ | refine n_block_ret ?_ | refine c_cond_t rfl ?_ | refine c_cond_f rfl ?_ | refine r_succ ?_ )
  (first | apply r_ret () | apply r_end ()); exact rfl; exact rfl; exact (.tmp rfl (.tmp rfl .nil)); exact rfl; exact (List.nil_sublist _); exact new_nil; exact trivial
end Go.Proofs.YtgmghkakiocmjaaDoor
namespace Go.Proofs.YtgmghkakiocmjaaDoor
open Go Go.RowKit
set_option linter.unusedVariables false
set_option linter.unusedSimpArgs false
theorem numF_spec : ∀ (ys : List Int) (n0 acc x m : Nat), (∀ y ∈ ys, 0 ≤ y ∧ y ≤ 255) → n0 ≤ 9 → acc < 128 ^ n0 → numF ys n0 acc = (x, m) → m ≠ 0 →
    ∃ v, x = acc + v * 128 ^ n0 ∧ leb v = ys.take (m - n0) ∧ n0 < m ∧ m ≤ n0 + ys.length ∧ (0 < n0 → v ≠ 0) ∧ x < 18446744073709551616
  | [], n0, acc, x, m, _, _, _, h, hm => by
    simp only [numF, Prod.mk.injEq] at h
    exact absurd h.2.symm hm
  | b :: bs, n0, acc, x, m, hb, h9, ha, h, hm => by
    obtain ⟨hb0, hb1⟩ := hb b (by simp)
    obtain ⟨c, rfl⟩ : ∃ c : Nat, b = (c : Int) := ⟨b.toNat, by omega⟩
    simp only [numF, Int.toNat_natCast] at h
    by_cases hlt : c < 128
    · rw [if_pos hlt] at h
      by_cases hz : c = 0 ∧ 0 < n0
      · rw [if_pos hz] at h; simp only [Prod.mk.injEq] at h; exact absurd h.2.symm hm
      · rw [if_neg hz] at h
        by_cases h99 : n0 = 9 ∧ 1 < c
        · rw [if_pos h99] at h; simp only [Prod.mk.injEq] at h; exact absurd h.2.symm hm
        · rw [if_neg h99] at h
          simp only [Prod.mk.injEq] at h
          obtain ⟨rfl, rfl⟩ := h
          refine ⟨c, rfl, ?_, by omega, by simp only [List.length_cons]; omega, fun h0 hc => hz ⟨hc, h0⟩, ?_⟩
          · rw [leb_small hlt, show n0 + 1 - n0 = 1 by omega]; rfl
          · have hl := pow_lt_step (n := n0) ha hlt
            rcases Nat.lt_or_ge n0 9 with h | h
            · have h1 : 128 ^ (n0 + 1) ≤ 128 ^ 9 := Nat.pow_le_pow_right (by omega) (by omega)
              have h2 : (128 : Nat) ^ 9 = 9223372036854775808 := by decide
              omega
            · obtain rfl : n0 = 9 := by omega
              have h2 : (128 : Nat) ^ 9 = 9223372036854775808 := by decide
              rw [h2] at ha ⊢
              have : c ≤ 1 := by omega
              omega
    · rw [if_neg hlt] at h
      by_cases h99 : n0 = 9
      · rw [if_pos h99] at h; simp only [Prod.mk.injEq] at h; exact absurd h.2.symm hm
      · rw [if_neg h99] at h
        obtain ⟨v, e1, e2, e3, e4, e5, e6⟩ := numF_spec bs (n0 + 1) _ x m (fun y hy => hb y (by simp [hy])) (by omega) (pow_lt_step ha (by omega)) h hm
        have hv0 := e5 (by omega)
        refine ⟨c % 128 + 128 * v, ?_, ?_, by omega, by simp only [List.length_cons]; omega, fun _ h0 => by omega, e6⟩
        · rw [e1, Nat.add_mul, Nat.pow_succ, Nat.add_assoc]
          congr 2
          rw [Nat.mul_comm (128 ^ n0) 128, ← Nat.mul_assoc, Nat.mul_comm v 128]
        · have h1 : (c % 128 + 128 * v) % 128 = c % 128 := by omega
          have h2 : (c % 128 + 128 * v) / 128 = v := by omega
          rw [leb_big (by omega), h1, h2, e2, show m - n0 = (m - (n0 + 1)) + 1 by omega, List.take_succ_cons]
          congr 1
          omega
theorem numX_spec {ys : List Int} {x n : Nat} (hb : ∀ y ∈ ys, 0 ≤ y ∧ y ≤ 255) (h : numX ys = (x, n)) (hn : n ≠ 0) : leb x = ys.take n ∧ n ≤ ys.length ∧ x < 18446744073709551616 := by
  obtain ⟨v, e1, e2, e3, e4, _, e6⟩ := numF_spec ys 0 0 x n hb (by omega) (by simp) h hn
  have : x = v := by rw [e1]; simp
  rw [← this] at e2
  exact ⟨by simpa using e2, by omega, e6⟩
end Go.Proofs.YtgmghkakiocmjaaDoor
namespace Go.Proofs.YtgmghkakiocmjaaDoor
open Go Go.RowKit
set_option linter.unusedVariables false
set_option linter.unusedSimpArgs false
set_option maxRecDepth 100000 in
set_option maxHeartbeats 4000000 in
theorem itext_c (gi : Nat) (b : Option Addr) (cap : Nat) (xs : List Int) (hxb : ∀ x ∈ xs, 0 ≤ x ∧ x ≤ 255) (hxn : xs.length ≤ 100000) (lb : Option Addr) (ll lc : Nat) (bad : Bool) (hv : LV b xs lb ll lc) (w : World) (ho : OS [] 0 b cap xs.length) (hL0 : Has (InL gi b cap xs lb ll lc false) w) (most : Int) (hmost : 0 ≤ most ∧ most ≤ 9223372036854775807) (x n : Nat) (hnx : numX (xs.drop (xs.length - ll)) = (x, n)) (hn : n ≠ 0) (hxm : (x : Int) ≤ most) (hx4 : x ≤ 4096) (hxl : n + x ≤ ll) :
    CA Tryd.prog 30 [.pointer (some ⟨gi, 0, none⟩), .int .i64 most] w (Ret (fun z : Option Addr × Nat × Option Addr => .slice z.1 x z.2.1) (feet (InL gi b cap xs lb ll lc false)) (fun z => .sl z.1 z.2.1 5 1 (((xs.drop (xs.length - (ll - n))).take x).map (Value.int .u8)) :: InL gi b cap xs z.2.2 (ll - n - x) (lc - n - x) false) (fun z => OS [] 0 z.1 z.2.1 x ∧ LV b xs z.2.2 (ll - n - x) (lc - n - x)) w) := by
  have hlc := hv.lc
  have hle := hv.le
  obtain ⟨lb2, hlb2⟩ : ∃ q, q = (if lc = n then lb else lb.map (·.add (n * 1))) := ⟨_, rfl⟩
  have hv2 : LV b xs lb2 (ll - n) (lc - n) := by rw [hlb2]; exact hv.cut n (by omega)
  refine enter (L := [.sl b cap 5 1 (xs.map (Value.int .u8)), .blk gi (.cells #[.slice lb ll lc, .bool false] 98 (0, 0))]) (X := feet (InL gi b cap xs lb ll lc false)) Tryd.func30 rfl Tryd.ntmps30 rfl rfl hL0 ?_
  repeat (first | refine c_seq ?_ | (refine c_region (id := 0) ?_; refine sq qa ?_; refine l_nil ?_) | (refine c_region (id := 1) ?_; refine sq qm ?_; refine se ?_; refine ecp rfl rfl (fun w hC hm hL => by have h9 := number_c gi lb ll lc (xs.drop (xs.length - ll)) hv.rest (fun y hy => hxb y (List.mem_of_mem_drop hy)) (by have := hv.le; omega) w (hL.old (k := 2) (by (repeat (first | exact List.Mem.head _ | apply List.Mem.tail))) (by rfl)) (hv.slE (SlE.own hL (by (repeat (first | exact List.Mem.head _ | apply List.Mem.tail))) ho)); rw [hnx] at h9; exact h9) ?_; intro m' hm'; refine sq qm ?_; refine sq qe ?_; refine sq qe ?_; refine sq qa ?_; refine sq qa ?_; refine l_nil ?_) | (refine c_region (id := 2) ?_; refine sq qm ?_; refine sq (by first | exact deqlt | exact deqlf) ?_; refine sq qm ?_; (first | refine sk ?_ | refine skv ?_ | (refine st_want rfl rfl ?_; refine sq qm ?_)); (first | refine sk ?_ | refine skv ?_ | (refine st_want rfl rfl ?_; refine sq (by first | exact dlsst | exact dlssf) ?_)); refine sq (by first | exact qpt | exact qpf) ?_; refine sq qm ?_; (first | refine sk ?_ | refine skv ?_ | (refine st_want rfl rfl ?_; refine sq qm ?_)); (first | refine sk ?_ | refine skv ?_ | (refine st_want rfl rfl ?_; refine sq qm ?_)); (first | refine sk ?_ | refine skv ?_ | (refine st_want rfl rfl ?_; refine sq (by exact Qt.cast (v' := .int .i64 (((min most.toNat 4096 : Nat)) : Int)) (congrArg (Value.int .i64) (by split <;> omega)) (q_min rfl rfl)) ?_)); (first | refine sk ?_ | refine skv ?_ | (refine st_want rfl rfl ?_; refine sq (by exact Qt.cast (v' := .int .u64 ((min most.toNat 4096 : Nat) : Int)) (congrArg (Value.int .u64) (by omega)) (q_convU rfl)) ?_)); (first | refine sk ?_ | refine skv ?_ | (refine st_want rfl rfl ?_; refine sq (by first | exact dgtrt | exact dgtrf) ?_)); refine sq (by first | exact qpt | exact qpf) ?_; refine sq qm ?_; (first | refine sk ?_ | refine skv ?_ | (refine st_want rfl rfl ?_; refine sq qm ?_)); (first | refine sk ?_ | refine skv ?_ | (refine st_want rfl rfl ?_; refine sq (by exact Qt.cast (v' := .int .i64 ((x : Nat) : Int)) (congrArg (Value.int .i64) (by omega)) (q_conv_i64 rfl (by omega) (by omega))) ?_)); (first | refine sk ?_ | refine skv ?_ | (refine st_want rfl rfl ?_; refine sq qm ?_)); (first | refine sk ?_ | refine skv ?_ | (refine st_want rfl rfl ?_; refine sq qn ?_)); (first | refine sk ?_ | refine skv ?_ | (refine st_want rfl rfl ?_; refine sq qf ?_)); (first | refine sk ?_ | refine skv ?_ | (refine st_want rfl rfl ?_; refine sq ql ?_)); (first | refine sk ?_ | refine skv ?_ | (refine st_want rfl rfl ?_; refine sq qls ?_)); (first | refine sk ?_ | refine skv ?_ | (refine st_want rfl rfl ?_; refine sq qm ?_)); (first | refine sk ?_ | refine skv ?_ | (refine st_want rfl rfl ?_; refine sq (by exact Qt.cast (v' := .int .i64 ((ll : Int) - (n : Int))) rfl (q_sub64 rfl rfl ⟨by omega, by omega⟩ rfl)) ?_)); (first | refine sk ?_ | refine skv ?_ | (refine st_want rfl rfl ?_; refine sq (by first | exact dgtrt | exact dgtrf) ?_)); refine sq (by first | exact qpt | exact qpf) ?_; refine l_nil ?_) | refine n_then ?_ | refine c_block ?_ | refine c_skip ?_ | refine n_block ?_ | refine c_exit ?_ | refine n_then_exit ?_ | refine n_block_eq ?_ | refine n_block_ne rfl ?_ | refine c_ret ?_ | refine n_then_ret ?_ | refine n_block_ret ?_ | refine c_cond_t rfl ?_ | refine c_cond_f rfl ?_ | refine r_succ ?_ )
  repeat (first | refine c_seq ?_ | (refine c_region (id := 5) ?_; refine sq qm ?_; refine sq qm ?_; refine sq qn ?_; refine sq qf ?_; refine sq ql ?_; refine sq qm ?_; refine sq (by exact q_slice (b' := (if lc = n then lb else lb.map (·.add (n * 1)))) (len' := ll - n) (cap' := lc - n) rfl rfl rfl (by omega) (by omega) (by omega) (by omega) (by rw [Int.toNat_natCast]) (by omega) (by omega)) ?_; refine sq qn ?_; refine sq qf ?_; refine se ?_; (refine e_store1l rfl rfl rfl (by (repeat (first | exact List.Mem.head _ | apply List.Mem.tail))) (by first | (simp only [setL]; try exact rfl) | exact rfl) (by (repeat (first | exact Pl.here | apply Pl.there))) rfl (.inl (by simp [feet, InL, Chunk.foot])) ?_); refine l_nil ?_) | refine n_then ?_ | refine c_block ?_ | refine c_skip ?_ | refine n_block ?_ | refine c_exit ?_ | refine n_then_exit ?_ | refine n_block_eq ?_ | refine n_block_ne rfl ?_ | refine c_ret ?_ | refine n_then_ret ?_ | refine n_block_ret ?_ | refine c_cond_t rfl ?_ | refine c_cond_f rfl ?_ | refine r_succ ?_ )
  rw [← hlb2]
  repeat (first | refine c_seq ?_ | (refine c_region (id := 6) ?_; refine sq qm ?_; refine sq qm ?_; refine sq (by exact Qt.cast (v' := .int .i64 ((x : Nat) : Int)) (congrArg (Value.int .i64) (by omega)) (q_conv_i64 rfl (by omega) (by omega))) ?_; refine se ?_; refine e_callX (InL gi b cap xs lb2 (ll - n) (lc - n) false) (fun z : Option Addr × Nat × Option Addr => [.sl z.1 z.2.1 5 1 ((((xs.drop (xs.length - (ll - n))).take x)).map (Value.int .u8)), .sl b cap 5 1 ((xs).map (Value.int .u8)), .blk gi (.cells #[.slice z.2.2 (ll - n - x) (lc - n - x), .bool false] 98 (0, 0))]) rfl rfl (by kernel_rfl) rfl (by (repeat (first | exact Sp.nil | (apply Sp.cons; focus (repeat (first | exact Rm.here | apply Rm.there)))))) (fun w hC hm hA hL hap => by exact iraw_c gi b cap xs hxb hxn lb2 (ll - n) (lc - n) false hv2 w ho hA x (by omega)) (fun g hg => .inl hg) (fun z => by rfl) ?_; rintro ⟨b1, c1, lb3⟩ m1 ⟨ho1, hv3⟩ hn1 hm1; dsimp only at ho1 hv3 hn1 ⊢; refine sq qa ?_; refine l_nil ?_) | refine n_then ?_ | refine c_block ?_ | refine c_skip ?_ | refine n_block ?_ | refine c_exit ?_ | refine n_then_exit ?_ | refine n_block_eq ?_ | refine n_block_ne rfl ?_ | refine c_ret ?_ | refine n_then_ret ?_ | refine n_block_ret ?_ | refine c_cond_t rfl ?_ | refine c_cond_f rfl ?_ | refine r_succ ?_ )
  (first | apply r_ret (b1, c1, lb3) | apply r_end (b1, c1, lb3)); exact rfl; exact rfl; exact (.tmp rfl .nil); exact rfl; exact (by exact (by (repeat (first | exact List.nil_sublist _ | exact List.Sublist.slnil | apply List.Sublist.cons_cons | exact List.Sublist.refl _ | apply List.Sublist.cons)))); exact hn1; exact ⟨ho1, hv3⟩
set_option maxRecDepth 100000 in
set_option maxHeartbeats 4000000 in
theorem itextno_c (gi : Nat) (b : Option Addr) (cap : Nat) (xs : List Int) (hxb : ∀ x ∈ xs, 0 ≤ x ∧ x ≤ 255) (hxn : xs.length ≤ 100000) (lb : Option Addr) (ll lc : Nat) (bad : Bool) (hv : LV b xs lb ll lc) (w : World) (ho : OS [] 0 b cap xs.length) (hL0 : Has (InL gi b cap xs lb ll lc bad) w) (most : Int) (hmost : -9223372036854775808 ≤ most ∧ most ≤ 9223372036854775807) (hno : bad = true ∨ (numX (xs.drop (xs.length - ll))).2 = 0 ∨ most < 0 ∨ most < ((numX (xs.drop (xs.length - ll))).1 : Int) ∨ 4096 < (numX (xs.drop (xs.length - ll))).1 ∨ ll < (numX (xs.drop (xs.length - ll))).2 + (numX (xs.drop (xs.length - ll))).1) :
    CA Tryd.prog 30 [.pointer (some ⟨gi, 0, none⟩), .int .i64 most] w (Ret (fun _ : Unit => .slice none 0 0) (feet (InL gi b cap xs lb ll lc bad)) (fun _ => InL gi b cap xs lb ll lc true) (fun _ => True) w) := by
  have hlc := hv.lc
  have hle := hv.le
  cases bad with
  | true =>
    refine enter (L := [.sl b cap 5 1 (xs.map (Value.int .u8)), .blk gi (.cells #[.slice lb ll lc, .bool true] 98 (0, 0))]) (X := feet (InL gi b cap xs lb ll lc true)) Tryd.func30 rfl Tryd.ntmps30 rfl rfl hL0 ?_
    repeat (first | refine c_seq ?_ | (refine c_region (id := 0) ?_; refine sq qa ?_; refine l_nil ?_) | (refine c_region (id := 1) ?_; refine sq qm ?_; refine se ?_; refine ecp rfl rfl (fun w hC hm hL => by exact numbad_c gi _ w (hL.old (k := 2) (by (repeat (first | exact List.Mem.head _ | apply List.Mem.tail))) (by rfl))) ?_; intro m' hm'; refine sq qm ?_; refine sq qe ?_; refine sq qe ?_; refine sq qa ?_; refine sq qa ?_; refine l_nil ?_) | (refine c_region (id := 2) ?_; refine sq qm ?_; refine sq (by first | exact deqlt | exact deqlf) ?_; refine sq qm ?_; (first | refine sk ?_ | refine skv ?_ | (refine st_want rfl rfl ?_; refine sq qm ?_)); (first | refine sk ?_ | refine skv ?_ | (refine st_want rfl rfl ?_; refine sq (by first | exact dlsst | exact dlssf) ?_)); refine sq (by first | exact qpt | exact qpf) ?_; refine sq qm ?_; (first | refine sk ?_ | refine skv ?_ | (refine st_want rfl rfl ?_; refine sq qm ?_)); (first | refine sk ?_ | refine skv ?_ | (refine st_want rfl rfl ?_; refine sq qm ?_)); (first | refine sk ?_ | refine skv ?_ | (refine st_want rfl rfl ?_; refine sq (by exact Qt.cast (v' := .int .i64 (((min most.toNat 4096 : Nat)) : Int)) (congrArg (Value.int .i64) (by split <;> omega)) (q_min rfl rfl)) ?_)); (first | refine sk ?_ | refine skv ?_ | (refine st_want rfl rfl ?_; refine sq (by exact Qt.cast (v' := .int .u64 ((min most.toNat 4096 : Nat) : Int)) (congrArg (Value.int .u64) (by omega)) (q_convU rfl)) ?_)); (first | refine sk ?_ | refine skv ?_ | (refine st_want rfl rfl ?_; refine sq (by first | exact dgtrt | exact dgtrf) ?_)); refine sq (by first | exact qpt | exact qpf) ?_; refine sq qm ?_; (first | refine sk ?_ | refine skv ?_ | (refine st_want rfl rfl ?_; refine sq qm ?_)); (first | refine sk ?_ | refine skv ?_ | (refine st_want rfl rfl ?_; refine sq (by exact Qt.cast (v' := .int .i64 ((x : Nat) : Int)) (congrArg (Value.int .i64) (by omega)) (q_conv_i64 rfl (by omega) (by omega))) ?_)); (first | refine sk ?_ | refine skv ?_ | (refine st_want rfl rfl ?_; refine sq qm ?_)); (first | refine sk ?_ | refine skv ?_ | (refine st_want rfl rfl ?_; refine sq qn ?_)); (first | refine sk ?_ | refine skv ?_ | (refine st_want rfl rfl ?_; refine sq qf ?_)); (first | refine sk ?_ | refine skv ?_ | (refine st_want rfl rfl ?_; refine sq ql ?_)); (first | refine sk ?_ | refine skv ?_ | (refine st_want rfl rfl ?_; refine sq qls ?_)); (first | refine sk ?_ | refine skv ?_ | (refine st_want rfl rfl ?_; refine sq qm ?_)); (first | refine sk ?_ | refine skv ?_ | (refine st_want rfl rfl ?_; refine sq (by exact Qt.cast (v' := .int .i64 ((ll : Int) - (n : Int))) rfl (q_sub64 rfl rfl ⟨by omega, by omega⟩ rfl)) ?_)); (first | refine sk ?_ | refine skv ?_ | (refine st_want rfl rfl ?_; refine sq (by first | exact dgtrt | exact dgtrf) ?_)); refine sq (by first | exact qpt | exact qpf) ?_; refine l_nil ?_) | (refine c_region (id := 3) ?_; refine sq qm ?_; refine sq qn ?_; refine sq qf ?_; refine se ?_; (refine e_store1l rfl rfl rfl (by (repeat (first | exact List.Mem.head _ | apply List.Mem.tail))) (by first | (simp only [setL]; try exact rfl) | exact rfl) (by (repeat (first | exact Pl.here | apply Pl.there))) rfl (.inl (by simp [feet, InL, Chunk.foot])) ?_); refine l_nil ?_) | (refine c_region (id := 4) ?_; refine sq qa ?_; refine l_nil ?_) | refine n_then ?_ | refine c_block ?_ | refine c_skip ?_ | refine n_block ?_ | refine c_exit ?_ | refine n_then_exit ?_ | refine n_block_eq ?_ | refine n_block_ne rfl ?_ | refine c_ret ?_ | refine n_then_ret ?_ | refine n_block_ret ?_ | refine c_cond_t rfl ?_ | refine c_cond_f rfl ?_ | refine r_succ ?_ )
    (first | apply r_ret () | apply r_end ()); exact rfl; exact rfl; exact (.tmp rfl .nil); exact rfl; exact (by exact (by (repeat (first | exact List.nil_sublist _ | exact List.Sublist.slnil | apply List.Sublist.cons_cons | exact List.Sublist.refl _ | apply List.Sublist.cons)))); exact (fun g hg => .inl hg); exact trivial
  | false =>
    obtain ⟨x, n, hnx⟩ : ∃ x n, numX (xs.drop (xs.length - ll)) = (x, n) := ⟨_, _, rfl⟩
    rw [hnx] at hno
    by_cases hn : n = 0
    · refine enter (L := [.sl b cap 5 1 (xs.map (Value.int .u8)), .blk gi (.cells #[.slice lb ll lc, .bool false] 98 (0, 0))]) (X := feet (InL gi b cap xs lb ll lc false)) Tryd.func30 rfl Tryd.ntmps30 rfl rfl hL0 ?_
      repeat (first | refine c_seq ?_ | (refine c_region (id := 0) ?_; refine sq qa ?_; refine l_nil ?_) | (refine c_region (id := 1) ?_; refine sq qm ?_; refine se ?_; refine ecp rfl rfl (fun w hC hm hL => by have h9 := number_c gi lb ll lc (xs.drop (xs.length - ll)) hv.rest (fun y hy => hxb y (List.mem_of_mem_drop hy)) (by have := hv.le; omega) w (hL.old (k := 2) (by (repeat (first | exact List.Mem.head _ | apply List.Mem.tail))) (by rfl)) (hv.slE (SlE.own hL (by (repeat (first | exact List.Mem.head _ | apply List.Mem.tail))) ho)); rw [hnx] at h9; exact h9) ?_; intro m' hm'; refine sq qm ?_; refine sq qe ?_; refine sq qe ?_; refine sq qa ?_; refine sq qa ?_; refine l_nil ?_) | (refine c_region (id := 2) ?_; refine sq qm ?_; refine sq (by first | exact deqlt | exact deqlf) ?_; refine sq qm ?_; (first | refine sk ?_ | refine skv ?_ | (refine st_want rfl rfl ?_; refine sq qm ?_)); (first | refine sk ?_ | refine skv ?_ | (refine st_want rfl rfl ?_; refine sq (by first | exact dlsst | exact dlssf) ?_)); refine sq (by first | exact qpt | exact qpf) ?_; refine sq qm ?_; (first | refine sk ?_ | refine skv ?_ | (refine st_want rfl rfl ?_; refine sq qm ?_)); (first | refine sk ?_ | refine skv ?_ | (refine st_want rfl rfl ?_; refine sq qm ?_)); (first | refine sk ?_ | refine skv ?_ | (refine st_want rfl rfl ?_; refine sq (by exact Qt.cast (v' := .int .i64 (((min most.toNat 4096 : Nat)) : Int)) (congrArg (Value.int .i64) (by split <;> omega)) (q_min rfl rfl)) ?_)); (first | refine sk ?_ | refine skv ?_ | (refine st_want rfl rfl ?_; refine sq (by exact Qt.cast (v' := .int .u64 ((min most.toNat 4096 : Nat) : Int)) (congrArg (Value.int .u64) (by omega)) (q_convU rfl)) ?_)); (first | refine sk ?_ | refine skv ?_ | (refine st_want rfl rfl ?_; refine sq (by first | exact dgtrt | exact dgtrf) ?_)); refine sq (by first | exact qpt | exact qpf) ?_; refine sq qm ?_; (first | refine sk ?_ | refine skv ?_ | (refine st_want rfl rfl ?_; refine sq qm ?_)); (first | refine sk ?_ | refine skv ?_ | (refine st_want rfl rfl ?_; refine sq (by exact Qt.cast (v' := .int .i64 ((x : Nat) : Int)) (congrArg (Value.int .i64) (by omega)) (q_conv_i64 rfl (by omega) (by omega))) ?_)); (first | refine sk ?_ | refine skv ?_ | (refine st_want rfl rfl ?_; refine sq qm ?_)); (first | refine sk ?_ | refine skv ?_ | (refine st_want rfl rfl ?_; refine sq qn ?_)); (first | refine sk ?_ | refine skv ?_ | (refine st_want rfl rfl ?_; refine sq qf ?_)); (first | refine sk ?_ | refine skv ?_ | (refine st_want rfl rfl ?_; refine sq ql ?_)); (first | refine sk ?_ | refine skv ?_ | (refine st_want rfl rfl ?_; refine sq qls ?_)); (first | refine sk ?_ | refine skv ?_ | (refine st_want rfl rfl ?_; refine sq qm ?_)); (first | refine sk ?_ | refine skv ?_ | (refine st_want rfl rfl ?_; refine sq (by exact Qt.cast (v' := .int .i64 ((ll : Int) - (n : Int))) rfl (q_sub64 rfl rfl ⟨by omega, by omega⟩ rfl)) ?_)); (first | refine sk ?_ | refine skv ?_ | (refine st_want rfl rfl ?_; refine sq (by first | exact dgtrt | exact dgtrf) ?_)); refine sq (by first | exact qpt | exact qpf) ?_; refine l_nil ?_) | (refine c_region (id := 3) ?_; refine sq qm ?_; refine sq qn ?_; refine sq qf ?_; refine se ?_; (refine e_store1l rfl rfl rfl (by (repeat (first | exact List.Mem.head _ | apply List.Mem.tail))) (by first | (simp only [setL]; try exact rfl) | exact rfl) (by (repeat (first | exact Pl.here | apply Pl.there))) rfl (.inl (by simp [feet, InL, Chunk.foot])) ?_); refine l_nil ?_) | (refine c_region (id := 4) ?_; refine sq qa ?_; refine l_nil ?_) | refine n_then ?_ | refine c_block ?_ | refine c_skip ?_ | refine n_block ?_ | refine c_exit ?_ | refine n_then_exit ?_ | refine n_block_eq ?_ | refine n_block_ne rfl ?_ | refine c_ret ?_ | refine n_then_ret ?_ | refine n_block_ret ?_ | refine c_cond_t rfl ?_ | refine c_cond_f rfl ?_ | refine r_succ ?_ )
      (first | apply r_ret () | apply r_end ()); exact rfl; exact rfl; exact (.tmp rfl .nil); exact rfl; exact (by exact (by (repeat (first | exact List.nil_sublist _ | exact List.Sublist.slnil | apply List.Sublist.cons_cons | exact List.Sublist.refl _ | apply List.Sublist.cons)))); exact (fun g hg => .inl hg); exact trivial
    · have hxs := numX_spec (fun y hy => hxb y (List.mem_of_mem_drop hy)) hnx hn
      have hx64 := hxs.2.2
      have hnl := hxs.2.1
      rw [hv.rest] at hnl
      by_cases h1 : most < 0
      · refine enter (L := [.sl b cap 5 1 (xs.map (Value.int .u8)), .blk gi (.cells #[.slice lb ll lc, .bool false] 98 (0, 0))]) (X := feet (InL gi b cap xs lb ll lc false)) Tryd.func30 rfl Tryd.ntmps30 rfl rfl hL0 ?_
        repeat (first | refine c_seq ?_ | (refine c_region (id := 0) ?_; refine sq qa ?_; refine l_nil ?_) | (refine c_region (id := 1) ?_; refine sq qm ?_; refine se ?_; refine ecp rfl rfl (fun w hC hm hL => by have h9 := number_c gi lb ll lc (xs.drop (xs.length - ll)) hv.rest (fun y hy => hxb y (List.mem_of_mem_drop hy)) (by have := hv.le; omega) w (hL.old (k := 2) (by (repeat (first | exact List.Mem.head _ | apply List.Mem.tail))) (by rfl)) (hv.slE (SlE.own hL (by (repeat (first | exact List.Mem.head _ | apply List.Mem.tail))) ho)); rw [hnx] at h9; exact h9) ?_; intro m' hm'; refine sq qm ?_; refine sq qe ?_; refine sq qe ?_; refine sq qa ?_; refine sq qa ?_; refine l_nil ?_) | (refine c_region (id := 2) ?_; refine sq qm ?_; refine sq (by first | exact deqlt | exact deqlf) ?_; refine sq qm ?_; (first | refine sk ?_ | refine skv ?_ | (refine st_want rfl rfl ?_; refine sq qm ?_)); (first | refine sk ?_ | refine skv ?_ | (refine st_want rfl rfl ?_; refine sq (by first | exact dlsst | exact dlssf) ?_)); refine sq (by first | exact qpt | exact qpf) ?_; refine sq qm ?_; (first | refine sk ?_ | refine skv ?_ | (refine st_want rfl rfl ?_; refine sq qm ?_)); (first | refine sk ?_ | refine skv ?_ | (refine st_want rfl rfl ?_; refine sq qm ?_)); (first | refine sk ?_ | refine skv ?_ | (refine st_want rfl rfl ?_; refine sq (by exact Qt.cast (v' := .int .i64 (((min most.toNat 4096 : Nat)) : Int)) (congrArg (Value.int .i64) (by split <;> omega)) (q_min rfl rfl)) ?_)); (first | refine sk ?_ | refine skv ?_ | (refine st_want rfl rfl ?_; refine sq (by exact Qt.cast (v' := .int .u64 ((min most.toNat 4096 : Nat) : Int)) (congrArg (Value.int .u64) (by omega)) (q_convU rfl)) ?_)); (first | refine sk ?_ | refine skv ?_ | (refine st_want rfl rfl ?_; refine sq (by first | exact dgtrt | exact dgtrf) ?_)); refine sq (by first | exact qpt | exact qpf) ?_; refine sq qm ?_; (first | refine sk ?_ | refine skv ?_ | (refine st_want rfl rfl ?_; refine sq qm ?_)); (first | refine sk ?_ | refine skv ?_ | (refine st_want rfl rfl ?_; refine sq (by exact Qt.cast (v' := .int .i64 ((x : Nat) : Int)) (congrArg (Value.int .i64) (by omega)) (q_conv_i64 rfl (by omega) (by omega))) ?_)); (first | refine sk ?_ | refine skv ?_ | (refine st_want rfl rfl ?_; refine sq qm ?_)); (first | refine sk ?_ | refine skv ?_ | (refine st_want rfl rfl ?_; refine sq qn ?_)); (first | refine sk ?_ | refine skv ?_ | (refine st_want rfl rfl ?_; refine sq qf ?_)); (first | refine sk ?_ | refine skv ?_ | (refine st_want rfl rfl ?_; refine sq ql ?_)); (first | refine sk ?_ | refine skv ?_ | (refine st_want rfl rfl ?_; refine sq qls ?_)); (first | refine sk ?_ | refine skv ?_ | (refine st_want rfl rfl ?_; refine sq qm ?_)); (first | refine sk ?_ | refine skv ?_ | (refine st_want rfl rfl ?_; refine sq (by exact Qt.cast (v' := .int .i64 ((ll : Int) - (n : Int))) rfl (q_sub64 rfl rfl ⟨by omega, by omega⟩ rfl)) ?_)); (first | refine sk ?_ | refine skv ?_ | (refine st_want rfl rfl ?_; refine sq (by first | exact dgtrt | exact dgtrf) ?_)); refine sq (by first | exact qpt | exact qpf) ?_; refine l_nil ?_) | (refine c_region (id := 3) ?_; refine sq qm ?_; refine sq qn ?_; refine sq qf ?_; refine se ?_; (refine e_store1l rfl rfl rfl (by (repeat (first | exact List.Mem.head _ | apply List.Mem.tail))) (by first | (simp only [setL]; try exact rfl) | exact rfl) (by (repeat (first | exact Pl.here | apply Pl.there))) rfl (.inl (by simp [feet, InL, Chunk.foot])) ?_); refine l_nil ?_) | (refine c_region (id := 4) ?_; refine sq qa ?_; refine l_nil ?_) | refine n_then ?_ | refine c_block ?_ | refine c_skip ?_ | refine n_block ?_ | refine c_exit ?_ | refine n_then_exit ?_ | refine n_block_eq ?_ | refine n_block_ne rfl ?_ | refine c_ret ?_ | refine n_then_ret ?_ | refine n_block_ret ?_ | refine c_cond_t rfl ?_ | refine c_cond_f rfl ?_ | refine r_succ ?_ )
        (first | apply r_ret () | apply r_end ()); exact rfl; exact rfl; exact (.tmp rfl .nil); exact rfl; exact (by exact (by (repeat (first | exact List.nil_sublist _ | exact List.Sublist.slnil | apply List.Sublist.cons_cons | exact List.Sublist.refl _ | apply List.Sublist.cons)))); exact (fun g hg => .inl hg); exact trivial
      · by_cases h2 : x ≤ min most.toNat 4096
        · have h3 : ll < n + x := by rcases hno with h | h | h | h | h | h; exact absurd h (by decide); exact absurd h hn; exact absurd h h1; omega; omega; exact h
          refine enter (L := [.sl b cap 5 1 (xs.map (Value.int .u8)), .blk gi (.cells #[.slice lb ll lc, .bool false] 98 (0, 0))]) (X := feet (InL gi b cap xs lb ll lc false)) Tryd.func30 rfl Tryd.ntmps30 rfl rfl hL0 ?_
          repeat (first | refine c_seq ?_ | (refine c_region (id := 0) ?_; refine sq qa ?_; refine l_nil ?_) | (refine c_region (id := 1) ?_; refine sq qm ?_; refine se ?_; refine ecp rfl rfl (fun w hC hm hL => by have h9 := number_c gi lb ll lc (xs.drop (xs.length - ll)) hv.rest (fun y hy => hxb y (List.mem_of_mem_drop hy)) (by have := hv.le; omega) w (hL.old (k := 2) (by (repeat (first | exact List.Mem.head _ | apply List.Mem.tail))) (by rfl)) (hv.slE (SlE.own hL (by (repeat (first | exact List.Mem.head _ | apply List.Mem.tail))) ho)); rw [hnx] at h9; exact h9) ?_; intro m' hm'; refine sq qm ?_; refine sq qe ?_; refine sq qe ?_; refine sq qa ?_; refine sq qa ?_; refine l_nil ?_) | (refine c_region (id := 2) ?_; refine sq qm ?_; refine sq (by first | exact deqlt | exact deqlf) ?_; refine sq qm ?_; (first | refine sk ?_ | refine skv ?_ | (refine st_want rfl rfl ?_; refine sq qm ?_)); (first | refine sk ?_ | refine skv ?_ | (refine st_want rfl rfl ?_; refine sq (by first | exact dlsst | exact dlssf) ?_)); refine sq (by first | exact qpt | exact qpf) ?_; refine sq qm ?_; (first | refine sk ?_ | refine skv ?_ | (refine st_want rfl rfl ?_; refine sq qm ?_)); (first | refine sk ?_ | refine skv ?_ | (refine st_want rfl rfl ?_; refine sq qm ?_)); (first | refine sk ?_ | refine skv ?_ | (refine st_want rfl rfl ?_; refine sq (by exact Qt.cast (v' := .int .i64 (((min most.toNat 4096 : Nat)) : Int)) (congrArg (Value.int .i64) (by split <;> omega)) (q_min rfl rfl)) ?_)); (first | refine sk ?_ | refine skv ?_ | (refine st_want rfl rfl ?_; refine sq (by exact Qt.cast (v' := .int .u64 ((min most.toNat 4096 : Nat) : Int)) (congrArg (Value.int .u64) (by omega)) (q_convU rfl)) ?_)); (first | refine sk ?_ | refine skv ?_ | (refine st_want rfl rfl ?_; refine sq (by first | exact dgtrt | exact dgtrf) ?_)); refine sq (by first | exact qpt | exact qpf) ?_; refine sq qm ?_; (first | refine sk ?_ | refine skv ?_ | (refine st_want rfl rfl ?_; refine sq qm ?_)); (first | refine sk ?_ | refine skv ?_ | (refine st_want rfl rfl ?_; refine sq (by exact Qt.cast (v' := .int .i64 ((x : Nat) : Int)) (congrArg (Value.int .i64) (by omega)) (q_conv_i64 rfl (by omega) (by omega))) ?_)); (first | refine sk ?_ | refine skv ?_ | (refine st_want rfl rfl ?_; refine sq qm ?_)); (first | refine sk ?_ | refine skv ?_ | (refine st_want rfl rfl ?_; refine sq qn ?_)); (first | refine sk ?_ | refine skv ?_ | (refine st_want rfl rfl ?_; refine sq qf ?_)); (first | refine sk ?_ | refine skv ?_ | (refine st_want rfl rfl ?_; refine sq ql ?_)); (first | refine sk ?_ | refine skv ?_ | (refine st_want rfl rfl ?_; refine sq qls ?_)); (first | refine sk ?_ | refine skv ?_ | (refine st_want rfl rfl ?_; refine sq qm ?_)); (first | refine sk ?_ | refine skv ?_ | (refine st_want rfl rfl ?_; refine sq (by exact Qt.cast (v' := .int .i64 ((ll : Int) - (n : Int))) rfl (q_sub64 rfl rfl ⟨by omega, by omega⟩ rfl)) ?_)); (first | refine sk ?_ | refine skv ?_ | (refine st_want rfl rfl ?_; refine sq (by first | exact dgtrt | exact dgtrf) ?_)); refine sq (by first | exact qpt | exact qpf) ?_; refine l_nil ?_) | (refine c_region (id := 3) ?_; refine sq qm ?_; refine sq qn ?_; refine sq qf ?_; refine se ?_; (refine e_store1l rfl rfl rfl (by (repeat (first | exact List.Mem.head _ | apply List.Mem.tail))) (by first | (simp only [setL]; try exact rfl) | exact rfl) (by (repeat (first | exact Pl.here | apply Pl.there))) rfl (.inl (by simp [feet, InL, Chunk.foot])) ?_); refine l_nil ?_) | (refine c_region (id := 4) ?_; refine sq qa ?_; refine l_nil ?_) | refine n_then ?_ | refine c_block ?_ | refine c_skip ?_ | refine n_block ?_ | refine c_exit ?_ | refine n_then_exit ?_ | refine n_block_eq ?_ | refine n_block_ne rfl ?_ | refine c_ret ?_ | refine n_then_ret ?_ | refine n_block_ret ?_ | refine c_cond_t rfl ?_ | refine c_cond_f rfl ?_ | refine r_succ ?_ )
          (first | apply r_ret () | apply r_end ()); exact rfl; exact rfl; exact (.tmp rfl .nil); exact rfl; exact (by exact (by (repeat (first | exact List.nil_sublist _ | exact List.Sublist.slnil | apply List.Sublist.cons_cons | exact List.Sublist.refl _ | apply List.Sublist.cons)))); exact (fun g hg => .inl hg); exact trivial
        · refine enter (L := [.sl b cap 5 1 (xs.map (Value.int .u8)), .blk gi (.cells #[.slice lb ll lc, .bool false] 98 (0, 0))]) (X := feet (InL gi b cap xs lb ll lc false)) Tryd.func30 rfl Tryd.ntmps30 rfl rfl hL0 ?_
          repeat (first | refine c_seq ?_ | (refine c_region (id := 0) ?_; refine sq qa ?_; refine l_nil ?_) | (refine c_region (id := 1) ?_; refine sq qm ?_; refine se ?_; refine ecp rfl rfl (fun w hC hm hL => by have h9 := number_c gi lb ll lc (xs.drop (xs.length - ll)) hv.rest (fun y hy => hxb y (List.mem_of_mem_drop hy)) (by have := hv.le; omega) w (hL.old (k := 2) (by (repeat (first | exact List.Mem.head _ | apply List.Mem.tail))) (by rfl)) (hv.slE (SlE.own hL (by (repeat (first | exact List.Mem.head _ | apply List.Mem.tail))) ho)); rw [hnx] at h9; exact h9) ?_; intro m' hm'; refine sq qm ?_; refine sq qe ?_; refine sq qe ?_; refine sq qa ?_; refine sq qa ?_; refine l_nil ?_) | (refine c_region (id := 2) ?_; refine sq qm ?_; refine sq (by first | exact deqlt | exact deqlf) ?_; refine sq qm ?_; (first | refine sk ?_ | refine skv ?_ | (refine st_want rfl rfl ?_; refine sq qm ?_)); (first | refine sk ?_ | refine skv ?_ | (refine st_want rfl rfl ?_; refine sq (by first | exact dlsst | exact dlssf) ?_)); refine sq (by first | exact qpt | exact qpf) ?_; refine sq qm ?_; (first | refine sk ?_ | refine skv ?_ | (refine st_want rfl rfl ?_; refine sq qm ?_)); (first | refine sk ?_ | refine skv ?_ | (refine st_want rfl rfl ?_; refine sq qm ?_)); (first | refine sk ?_ | refine skv ?_ | (refine st_want rfl rfl ?_; refine sq (by exact Qt.cast (v' := .int .i64 (((min most.toNat 4096 : Nat)) : Int)) (congrArg (Value.int .i64) (by split <;> omega)) (q_min rfl rfl)) ?_)); (first | refine sk ?_ | refine skv ?_ | (refine st_want rfl rfl ?_; refine sq (by exact Qt.cast (v' := .int .u64 ((min most.toNat 4096 : Nat) : Int)) (congrArg (Value.int .u64) (by omega)) (q_convU rfl)) ?_)); (first | refine sk ?_ | refine skv ?_ | (refine st_want rfl rfl ?_; refine sq (by first | exact dgtrt | exact dgtrf) ?_)); refine sq (by first | exact qpt | exact qpf) ?_; refine sq qm ?_; (first | refine sk ?_ | refine skv ?_ | (refine st_want rfl rfl ?_; refine sq qm ?_)); (first | refine sk ?_ | refine skv ?_ | (refine st_want rfl rfl ?_; refine sq (by exact Qt.cast (v' := .int .i64 ((x : Nat) : Int)) (congrArg (Value.int .i64) (by omega)) (q_conv_i64 rfl (by omega) (by omega))) ?_)); (first | refine sk ?_ | refine skv ?_ | (refine st_want rfl rfl ?_; refine sq qm ?_)); (first | refine sk ?_ | refine skv ?_ | (refine st_want rfl rfl ?_; refine sq qn ?_)); (first | refine sk ?_ | refine skv ?_ | (refine st_want rfl rfl ?_; refine sq qf ?_)); (first | refine sk ?_ | refine skv ?_ | (refine st_want rfl rfl ?_; refine sq ql ?_)); (first | refine sk ?_ | refine skv ?_ | (refine st_want rfl rfl ?_; refine sq qls ?_)); (first | refine sk ?_ | refine skv ?_ | (refine st_want rfl rfl ?_; refine sq qm ?_)); (first | refine sk ?_ | refine skv ?_ | (refine st_want rfl rfl ?_; refine sq (by exact Qt.cast (v' := .int .i64 ((ll : Int) - (n : Int))) rfl (q_sub64 rfl rfl ⟨by omega, by omega⟩ rfl)) ?_)); (first | refine sk ?_ | refine skv ?_ | (refine st_want rfl rfl ?_; refine sq (by first | exact dgtrt | exact dgtrf) ?_)); refine sq (by first | exact qpt | exact qpf) ?_; refine l_nil ?_) | (refine c_region (id := 3) ?_; refine sq qm ?_; refine sq qn ?_; refine sq qf ?_; refine se ?_; (refine e_store1l rfl rfl rfl (by (repeat (first | exact List.Mem.head _ | apply List.Mem.tail))) (by first | (simp only [setL]; try exact rfl) | exact rfl) (by (repeat (first | exact Pl.here | apply Pl.there))) rfl (.inl (by simp [feet, InL, Chunk.foot])) ?_); refine l_nil ?_) | (refine c_region (id := 4) ?_; refine sq qa ?_; refine l_nil ?_) | refine n_then ?_ | refine c_block ?_ | refine c_skip ?_ | refine n_block ?_ | refine c_exit ?_ | refine n_then_exit ?_ | refine n_block_eq ?_ | refine n_block_ne rfl ?_ | refine c_ret ?_ | refine n_then_ret ?_ | refine n_block_ret ?_ | refine c_cond_t rfl ?_ | refine c_cond_f rfl ?_ | refine r_succ ?_ )
          (first | apply r_ret () | apply r_end ()); exact rfl; exact rfl; exact (.tmp rfl .nil); exact rfl; exact (by exact (by (repeat (first | exact List.nil_sublist _ | exact List.Sublist.slnil | apply List.Sublist.cons_cons | exact List.Sublist.refl _ | apply List.Sublist.cons)))); exact (fun g hg => .inl hg); exact trivial
end Go.Proofs.YtgmghkakiocmjaaDoor
