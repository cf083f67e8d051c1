/- Proved: for every input, the law jalousielaw07.DiskPlays returns true and does not panic, and each argument reads behind the call as it read before. Conditions: none. -/
import Derived.Test.YteopejjlhmghbaaSDiskPlaysB
namespace Go.Proofs.Yteopejjlhmghbaa
open Go Go.RowKit
set_option linter.unusedVariables false
set_option linter.unusedSimpArgs false
def isN (rows : List Row) : Nat := (rows.filter Row.is).length
theorem isN_snoc (P : List Row) (r : Row) : isN (P ++ [r]) = isN P + (if r.is then 1 else 0) := by
  unfold isN
  rw [List.filter_append, List.length_append]
  cases h : r.is <;> simp [h]
theorem isN_le (P : List Row) : isN P ≤ P.length := List.length_filter_le _ _
set_option maxRecDepth 100000 in
set_option maxHeartbeats 4000000 in
theorem rloose_c (b : Rb) (R : Rk) (k0 : Nat) (hbk : RbOK k0 R.rows.length b) (hn9 : R.rows.length ≤ 16384) (w : World) (hD : Has (RL b R) w) :
    CA Try.prog 43 [.pointer (some ⟨b.g, 0, none⟩)] w (RV (.int .i64 (isN R.rows)) w) := by
  refine enter (L := RL b R) (X := []) Try.func43 rfl Try.ntmps43 rfl rfl hD ?_
  repeat (first | refine c_seq ?_ | (refine c_region (id := 0) ?_; refine sq qa ?_; refine l_nil ?_) | (refine c_region (id := 1) ?_; refine sq qa ?_; refine l_nil ?_) | (refine c_region (id := 2) ?_; refine sq qa ?_; refine l_nil ?_) | refine n_then ?_ | refine c_block ?_ | refine c_skip ?_ | refine n_block ?_ | refine c_exit ?_ | refine n_then_exit ?_ | refine n_block_eq ?_ | refine n_block_ne rfl ?_ | refine c_ret ?_ | refine n_then_ret ?_ | refine n_block_ret ?_ | refine c_cond_t rfl ?_ | refine c_cond_f rfl ?_ | refine r_succ ?_ )
  refine c_loop (γ := List Row × List Row) (fun z => [(4, .int .i64 z.1.length), (3, .int .i64 (isN z.1)), (0, .pointer (some ⟨b.g, 0, none⟩))]) (fun _ => w.heap.size) (fun _ => RL b R) (fun z => R.rows = z.1 ++ z.2) (fun z => z.2.length) ⟨[], R.rows⟩ rfl ⟨rfl, rfl, rfl, trivial⟩ rfl (List.Sublist.refl _) ?_
  rintro ⟨P, Q⟩ hq
  dsimp only at hq ⊢
  have hl : R.rows.length = P.length + Q.length := by rw [hq]; simp
  have hle := isN_le P
  cases Q with
  | nil =>
    have hl : R.rows.length = P.length := by simpa using hl
    have he : R.rows = P := by simpa using hq
    rw [show isN R.rows = isN P by rw [he]]
    repeat (first | refine c_seq ?_ | (refine c_region (id := 3) ?_; refine sq qm ?_; refine sq qm ?_; refine sq qn ?_; refine sq qf ?_; refine sq ql ?_; refine sq qls ?_; refine sq (by first | exact dlsst | exact dlssf) ?_; refine l_nil ?_) | (refine c_region (id := 7) ?_; refine sq qm ?_; refine sq qa ?_; refine l_nil ?_) | refine n_then ?_ | refine c_block ?_ | refine c_skip ?_ | refine n_block ?_ | refine c_exit ?_ | refine n_then_exit ?_ | refine n_block_eq ?_ | refine n_block_ne rfl ?_ | refine c_ret ?_ | refine n_then_ret ?_ | refine n_block_ret ?_ | refine c_cond_t rfl ?_ | refine c_cond_f rfl ?_ | refine r_succ ?_ )
    (first | apply r_ret () | apply r_end ()); exact rfl; exact rfl; exact (.tmp rfl .nil); exact rfl; exact (List.nil_sublist _); exact new_nil; exact trivial
  | cons r Q =>
    have hl : R.rows.length = P.length + (Q.length + 1) := by simpa using hl
    obtain ⟨gi, hgi⟩ := hbk.oi.some (by omega)
    obtain ⟨g, bn, cn, bw, cw, bi, ci⟩ := b
    dsimp only at hgi
    subst hgi
    have hgx : nth ((R.rows.map Row.is).map Value.bool) P.length = some (Value.bool r.is) := by rw [hq]; exact get_is P r Q
    have hs := isN_snoc P r
    cases hr : r.is with
    | true =>
      rw [hr] at hgx hs
      repeat (first | refine c_seq ?_ | (refine c_region (id := 3) ?_; refine sq qm ?_; refine sq qm ?_; refine sq qn ?_; refine sq qf ?_; refine sq ql ?_; refine sq qls ?_; refine sq (by first | exact dlsst | exact dlssf) ?_; refine l_nil ?_) | (refine c_region (id := 4) ?_; refine sq qm ?_; refine sq (by exact Qt.cast (v' := .int .i64 ((P.length + 1 : Nat) : Int)) (congrArg (Value.int .i64) (by omega)) (q_add64 rfl rfl ⟨by omega, by omega⟩ rfl)) ?_; refine sq qa ?_; refine l_nil ?_) | (refine c_region (id := 5) ?_; refine sq qm ?_; refine sq qn ?_; refine sq qf ?_; refine sq ql ?_; refine sq qm ?_; refine sq qis ?_; refine sq (by exact ql (hr := Rd.sln (by (repeat (first | exact List.Mem.head _ | apply List.Mem.tail))) hgx)) ?_; refine l_nil ?_) | (refine c_region (id := 6) ?_; refine sq qm ?_; refine sq (by exact Qt.cast (v' := .int .i64 ((isN P + 1 : Nat) : Int)) (congrArg (Value.int .i64) (by omega)) (q_add64 rfl rfl ⟨by omega, by omega⟩ rfl)) ?_; refine sq qa ?_; refine l_nil ?_) | refine n_then ?_ | refine c_block ?_ | refine c_skip ?_ | refine n_block ?_ | refine c_exit ?_ | refine n_then_exit ?_ | refine n_block_eq ?_ | refine n_block_ne rfl ?_ | refine c_ret ?_ | refine n_then_ret ?_ | refine n_block_ret ?_ | refine c_cond_t rfl ?_ | refine c_cond_f rfl ?_ | refine r_succ ?_ )
      refine c_round ⟨P ++ [r], Q⟩ (by dsimp only; rw [hq]; simp) (by dsimp only; simp) ⟨by simp; rfl, by rw [hs]; rfl, rfl, trivial⟩ (by rfl) (List.Sublist.refl _)
    | false =>
      rw [hr] at hgx hs
      repeat (first | refine c_seq ?_ | (refine c_region (id := 3) ?_; refine sq qm ?_; refine sq qm ?_; refine sq qn ?_; refine sq qf ?_; refine sq ql ?_; refine sq qls ?_; refine sq (by first | exact dlsst | exact dlssf) ?_; refine l_nil ?_) | (refine c_region (id := 4) ?_; refine sq qm ?_; refine sq (by exact Qt.cast (v' := .int .i64 ((P.length + 1 : Nat) : Int)) (congrArg (Value.int .i64) (by omega)) (q_add64 rfl rfl ⟨by omega, by omega⟩ rfl)) ?_; refine sq qa ?_; refine l_nil ?_) | (refine c_region (id := 5) ?_; refine sq qm ?_; refine sq qn ?_; refine sq qf ?_; refine sq ql ?_; refine sq qm ?_; refine sq qis ?_; refine sq (by exact ql (hr := Rd.sln (by (repeat (first | exact List.Mem.head _ | apply List.Mem.tail))) hgx)) ?_; refine l_nil ?_) | refine n_then ?_ | refine c_block ?_ | refine c_skip ?_ | refine n_block ?_ | refine c_exit ?_ | refine n_then_exit ?_ | refine n_block_eq ?_ | refine n_block_ne rfl ?_ | refine c_ret ?_ | refine n_then_ret ?_ | refine n_block_ret ?_ | refine c_cond_t rfl ?_ | refine c_cond_f rfl ?_ | refine r_succ ?_ )
      refine c_round ⟨P ++ [r], Q⟩ (by dsimp only; rw [hq]; simp) (by dsimp only; simp) ⟨by simp; rfl, by rw [hs]; rfl, rfl, trivial⟩ (by rfl) (List.Sublist.refl _)
set_option maxRecDepth 100000 in
set_option maxHeartbeats 4000000 in
theorem rsync_lost (b : Rb) (R : Rk) (hp : R.rgone = true) (w : World) (hD : Has (RL b R) w) :
    CA Try.prog 41 [.pointer (some ⟨b.g, 0, none⟩)] w (Ret (fun _ : Unit => .int .i64 5) (feet (RL b R)) (fun _ => RL b R.dead) (fun _ => True) w) := by
  have hmg := mem_g b R
  refine enter (L := RL b R) (X := feet (RL b R)) Try.func41 rfl Try.ntmps41 rfl rfl hD ?_
  repeat (first | refine c_seq ?_ | (refine c_region (id := 0) ?_; refine sq qa ?_; refine l_nil ?_) | (refine c_region (id := 1) ?_; refine sq qm ?_; refine se ?_; refine e_call_upd rfl rfl (by kernel_rfl) rfl (fun w hC hm hL => by exact change_no b R hp w (hL.sub (by exact List.Sublist.cons_cons _ (List.nil_sublist _)))) (by (repeat (first | exact Pl.here | apply Pl.there))) (.inl hmg) ?_; intro m' hm'; refine sq qnt ?_; refine l_nil ?_) | (refine c_region (id := 2) ?_; refine sq qa ?_; refine l_nil ?_) | refine n_then ?_ | refine c_block ?_ | refine c_skip ?_ | refine n_block ?_ | refine c_exit ?_ | refine n_then_exit ?_ | refine n_block_eq ?_ | refine n_block_ne rfl ?_ | refine c_ret ?_ | refine n_then_ret ?_ | refine n_block_ret ?_ | refine c_cond_t rfl ?_ | refine c_cond_f rfl ?_ | refine r_succ ?_ )
  (first | apply r_ret () | apply r_end ()); exact rfl; exact rfl; exact (.tmp rfl .nil); exact rfl; exact (List.Sublist.refl _); exact (fun g hg => .inl (by exact hg)); exact trivial
def Synced (R0 R1 : List Row) : Prop := R1.map Row.n = R0.map Row.n ∧ ∀ r ∈ R1, r.w.2.2 = r.n.2.2 ∧ r.is = false
set_option maxRecDepth 100000 in
set_option maxHeartbeats 4000000 in
theorem rsync_ok (b : Rb) (rows : List Row) (fz : Int) (go : Bool) (k0 : Nat) (hbk : RbOK k0 rows.length b) (hp : Rk.rgone ⟨rows, fz, go⟩ = false) (hf : -1 ≤ fz ∧ fz ≤ 9223372036854775807) (hn9 : rows.length ≤ 16384) (w : World) (hD : Has (RL b ⟨rows, fz, go⟩) w) :
    CA Try.prog 41 [.pointer (some ⟨b.g, 0, none⟩)] w (Ret (fun _ : List Row => .int .i64 0) (feet (RL b ⟨rows, fz, go⟩)) (fun z => RL b ⟨z, (Rk.lit ⟨rows, fz, go⟩).fuse, go⟩) (fun z => Synced rows z) w) := by
  have hmg := mem_g b ⟨rows, fz, go⟩
  obtain ⟨X, hX⟩ : ∃ X, X = feet (RL b ⟨rows, fz, go⟩) := ⟨_, rfl⟩
  rw [← hX] at hmg
  have hXn : ∀ g, b.bn = some ⟨g, 0, none⟩ → g ∈ X := fun g h => by rw [hX]; exact mem_n b _ g h
  have hXw : ∀ g, b.bw = some ⟨g, 0, none⟩ → g ∈ X := fun g h => by rw [hX]; exact mem_w b _ g h
  have hXi : ∀ g, b.bi = some ⟨g, 0, none⟩ → g ∈ X := fun g h => by rw [hX]; exact mem_i b _ g h
  have hX0 : ∀ g ∈ feet (RL b ⟨rows, fz, go⟩), g ∈ X ∨ w.heap.size ≤ g := fun g h => .inl (by rw [hX]; exact h)
  rw [← hX]
  obtain ⟨fz', hfz'⟩ : ∃ q, q = (Rk.lit ⟨rows, fz, go⟩).fuse := ⟨_, rfl⟩
  have hch : ∀ w, Has [.blk b.g (.cells #[.slice b.bn rows.length b.cn, .slice b.bw rows.length b.cw, .slice b.bi rows.length b.ci, .int .i64 fz, .bool go] 81 (0, 0))] w → CA Try.prog 59 [.pointer (some ⟨b.g, 0, none⟩)] w (RU (.bool true) b.g (.cells #[.slice b.bn rows.length b.cn, .slice b.bw rows.length b.cw, .slice b.bi rows.length b.ci, .int .i64 fz', .bool go] 81 (0, 0)) w) := fun w h => by rw [hfz']; exact change_yes b ⟨rows, fz, go⟩ hp hf w h
  rw [← hfz']
  refine enter (L := RL b ⟨rows, fz, go⟩) (X := X) Try.func41 rfl Try.ntmps41 rfl rfl hD ?_
  repeat (first | refine c_seq ?_ | (refine c_region (id := 0) ?_; refine sq qa ?_; refine l_nil ?_) | (refine c_region (id := 1) ?_; refine sq qm ?_; refine se ?_; refine e_call_upd rfl rfl (by kernel_rfl) rfl (fun w hC hm hL => by exact hch w (hL.sub (by exact List.Sublist.cons_cons _ (List.nil_sublist _)))) (by (repeat (first | exact Pl.here | apply Pl.there))) (.inl hmg) ?_; intro m' hm'; refine sq qnt ?_; refine l_nil ?_) | (refine c_region (id := 3) ?_; refine sq qa ?_; refine l_nil ?_) | refine n_then ?_ | refine c_block ?_ | refine c_skip ?_ | refine n_block ?_ | refine c_exit ?_ | refine n_then_exit ?_ | refine n_block_eq ?_ | refine n_block_ne rfl ?_ | refine c_ret ?_ | refine n_then_ret ?_ | refine n_block_ret ?_ | refine c_cond_t rfl ?_ | refine c_cond_f rfl ?_ | refine r_succ ?_ )
  refine chg (L' := RL b ⟨rows, fz', go⟩) (by rfl) ?_
  refine c_loop (γ := List Row × List Row × Nat) (fun z => [(3, .int .i64 z.1.length), (2, .int .i64 0), (0, .pointer (some ⟨b.g, 0, none⟩))]) (fun z => z.2.2) (fun z => RL b ⟨z.1 ++ z.2.1, fz', go⟩) (fun z => (∃ P0, rows = P0 ++ z.2.1 ∧ Synced P0 z.1) ∧ (∀ g ∈ feet (RL b ⟨z.1 ++ z.2.1, fz', go⟩), g ∈ X ∨ w.heap.size ≤ g) ∧ w.heap.size ≤ z.2.2) (fun z => z.2.1.length) ⟨[], rows, m'⟩ ⟨⟨[], rfl, rfl, by simp⟩, hX0, hm'⟩ ⟨rfl, rfl, rfl, trivial⟩ rfl (List.Sublist.refl _) ?_
  rintro ⟨P, Q, mm⟩ ⟨⟨P0, hr0, hs1, hs2⟩, hfr, hmm⟩
  dsimp only at hr0 hs1 hs2 hfr hmm ⊢
  have hpl : P.length = P0.length := by have := congrArg List.length hs1; simpa using this
  have hl : rows.length = P.length + Q.length := by rw [hr0, hpl]; simp
  cases Q with
  | nil =>
    rw [List.append_nil] at hfr ⊢
    have hlp : P.length = rows.length := by simpa using hl.symm
    refine chg (L' := [.blk b.g (.cells #[.slice b.bn P.length b.cn, .slice b.bw P.length b.cw, .slice b.bi P.length b.ci, .int .i64 fz', .bool go] 81 (0, 0)), .sl b.bn b.cn 33 1 ((P.map Row.n).map encS), .sl b.bw b.cw 33 1 ((P.map Row.w).map encS), .sl b.bi b.ci 4 1 ((P.map Row.is).map Value.bool)] ++ rowsC P) (by rfl) ?_
    repeat (first | refine c_seq ?_ | (refine c_region (id := 4) ?_; refine sq qm ?_; refine sq qm ?_; refine sq qn ?_; refine sq qf ?_; refine sq ql ?_; refine sq qls ?_; refine sq (by first | exact dlsst | exact dlssf) ?_; refine l_nil ?_) | (refine c_region (id := 8) ?_; refine sq qa ?_; refine l_nil ?_) | refine n_then ?_ | refine c_block ?_ | refine c_skip ?_ | refine n_block ?_ | refine c_exit ?_ | refine n_then_exit ?_ | refine n_block_eq ?_ | refine n_block_ne rfl ?_ | refine c_ret ?_ | refine n_then_ret ?_ | refine n_block_ret ?_ | refine c_cond_t rfl ?_ | refine c_cond_f rfl ?_ | refine r_succ ?_ )
    (first | apply r_ret P | apply r_end P); exact rfl; exact rfl; exact (.tmp rfl .nil); exact rfl; exact (List.Sublist.refl _); exact hfr; exact ⟨by rw [hs1, hr0, List.append_nil], hs2⟩
  | cons r Q =>
    have hl2 : (P ++ r :: Q).length = P.length + (Q.length + 1) := by simp
    have hl3 : rows.length = P.length + (Q.length + 1) := by simpa using hl
    obtain ⟨g, bn, cn, bw, cw, bi, ci⟩ := b
    obtain ⟨gn, hgn⟩ := hbk.on.some (by omega)
    obtain ⟨gv, hgv⟩ := hbk.ow.some (by omega)
    obtain ⟨gi, hgi⟩ := hbk.oi.some (by omega)
    dsimp only at hgn hgv hgi
    subst hgn hgv hgi
    have hmv := hXw gv rfl
    have hmi := hXi gi rfl
    have hgx := get_n P r Q
    have hrn : r.n.1 ∈ X ∨ w.heap.size ≤ r.n.1 := hfr _ (mem_rn _ _ r (by simp))
    dsimp only
    refine prm (RL_open _ _ _ _ _ _) ?_
    refine chg (L' := [.blk g (.cells #[.slice (some ⟨gn, 0, none⟩) (P ++ r :: Q).length cn, .slice (some ⟨gv, 0, none⟩) (P ++ r :: Q).length cw, .slice (some ⟨gi, 0, none⟩) (P ++ r :: Q).length ci, .int .i64 fz', .bool go] 81 (0, 0)), .sl (some ⟨gn, 0, none⟩) cn 33 1 (((P ++ r :: Q).map Row.n).map encS), .sl (some ⟨gv, 0, none⟩) cw 33 1 (((P ++ r :: Q).map Row.w).map encS), .sl (some ⟨gi, 0, none⟩) ci 4 1 (((P ++ r :: Q).map Row.is).map Value.bool), chS r.n, chS r.w] ++ (rowsC P ++ rowsC Q)) (by rfl) ?_
    repeat (first | refine c_seq ?_ | (refine c_region (id := 4) ?_; refine sq qm ?_; refine sq qm ?_; refine sq qn ?_; refine sq qf ?_; refine sq ql ?_; refine sq qls ?_; refine sq (by first | exact dlsst | exact dlssf) ?_; refine l_nil ?_) | (refine c_region (id := 5) ?_; refine sq qm ?_; refine sq (by exact Qt.cast (v' := .int .i64 ((P.length + 1 : Nat) : Int)) (congrArg (Value.int .i64) (by omega)) (q_add64 rfl rfl ⟨by omega, by omega⟩ rfl)) ?_; refine sq qa ?_; refine l_nil ?_) | (refine x_region (id := 6) (some 15) [(0, .n), (1, .n), (2, .n), (3, .q), (4, .n), (6, .n), (7, .n), (8, .n), (9, .q), (10, .n), (11, .n), (12, .q), (5, .e), (13, .e), (14, .n), (15, .b)] _ mixed (by kernel_rfl) (List.Sublist.refl _) ?_; refine xn rfl qm ?_; refine xn rfl qn ?_; refine xn rfl qf ?_; refine xq rfl ql ?_; refine xn rfl qm ?_; refine xn rfl qm ?_; refine xn rfl qn ?_; refine xn rfl qf ?_; refine xq rfl ql ?_; refine xn rfl qm ?_; refine xn rfl qis ?_; refine xq rfl (by exact ql (hr := Rd.sln (by (repeat (first | exact List.Mem.head _ | apply List.Mem.tail))) hgx)) ?_; refine x_e rfl ?_; refine e_buildSlice0 rfl ?_; refine xk ?_; refine x_e rfl ?_; refine e_appE (Value.int .u8) ([] : List Int) (secL r.n.2.2 64) rfl rfl rfl (by (repeat (first | exact Rm.here | apply Rm.there))) (Vw.own (.inr ⟨_, rfl⟩) (by (repeat (first | exact List.Mem.head _ | apply List.Mem.tail)))) rfl (secL_len _ _) ⟨Nat.le_refl _, by omega, .inr ⟨_, rfl⟩, fun g9 hg9 => .inr (by simp [Chunk.foot] at hg9; omega)⟩ (allOne_u8c _) (by omega) (by omega) ?_; intro b9 cap9 m9 ho9 hm9; refine xk ?_; refine xn rfl qis ?_; refine x_b rfl ?_; refine es3 ?_ (hoff := by simp) (hg := .inl hmv); refine x_k (List.nil_sublist _) ?_; refine x_nil ?_) | (refine c_region (id := 7) ?_; refine sq qm ?_; refine sq qn ?_; refine sq qf ?_; refine sq ql ?_; refine sq qm ?_; refine sq qis ?_; refine se ?_; refine es3 ?_ (hoff := by simp) (hg := .inl hmi); refine l_nil ?_) | refine n_then ?_ | refine c_block ?_ | refine c_skip ?_ | refine n_block ?_ | refine c_exit ?_ | refine n_then_exit ?_ | refine n_block_eq ?_ | refine n_block_ne rfl ?_ | refine c_ret ?_ | refine n_then_ret ?_ | refine n_block_ret ?_ | refine c_cond_t rfl ?_ | refine c_cond_f rfl ?_ | refine r_succ ?_ )
    rw [Nat.zero_add] at ho9 ⊢
    obtain ⟨gz, rfl⟩ := ho9.some (by omega)
    have hgz : gz ∈ X ∨ w.heap.size ≤ gz := ho9.new gz (by simp [Chunk.foot])
    rw [set_w P r ⟨r.n, (gz, cap9, r.n.2.2), false⟩ Q, set_is P r ⟨r.n, (gz, cap9, r.n.2.2), false⟩ Q]
    refine fgsT (A := [.blk g (.cells #[.slice (some ⟨gn, 0, none⟩) (P ++ r :: Q).length cn, .slice (some ⟨gv, 0, none⟩) (P ++ r :: Q).length cw, .slice (some ⟨gi, 0, none⟩) (P ++ r :: Q).length ci, .int .i64 fz', .bool go] 81 (0, 0)), .sl (some ⟨gn, 0, none⟩) cn 33 1 (((P ++ r :: Q).map Row.n).map encS), .sl (some ⟨gv, 0, none⟩) cw 33 1 (((P ++ ⟨r.n, (gz, cap9, r.n.2.2), false⟩ :: Q).map Row.w).map encS), .sl (some ⟨gi, 0, none⟩) ci 4 1 (((P ++ ⟨r.n, (gz, cap9, r.n.2.2), false⟩ :: Q).map Row.is).map Value.bool), chS r.n, chS (gz, cap9, r.n.2.2)]) (T := rowsC P ++ rowsC Q) (by repeat (first | exact Sp.nil | (apply Sp.cons; focus (repeat (first | exact Rm.here | apply Rm.there))))) (by (repeat (first | exact List.nil_sublist _ | exact List.Sublist.slnil | apply List.Sublist.cons_cons | exact List.Sublist.refl _ | apply List.Sublist.cons))) ?_
    refine chg (L' := [.blk g (.cells #[.slice (some ⟨gn, 0, none⟩) (P ++ ⟨r.n, (gz, cap9, r.n.2.2), false⟩ :: Q).length cn, .slice (some ⟨gv, 0, none⟩) (P ++ ⟨r.n, (gz, cap9, r.n.2.2), false⟩ :: Q).length cw, .slice (some ⟨gi, 0, none⟩) (P ++ ⟨r.n, (gz, cap9, r.n.2.2), false⟩ :: Q).length ci, .int .i64 fz', .bool go] 81 (0, 0)), .sl (some ⟨gn, 0, none⟩) cn 33 1 (((P ++ ⟨r.n, (gz, cap9, r.n.2.2), false⟩ :: Q).map Row.n).map encS), .sl (some ⟨gv, 0, none⟩) cw 33 1 (((P ++ ⟨r.n, (gz, cap9, r.n.2.2), false⟩ :: Q).map Row.w).map encS), .sl (some ⟨gi, 0, none⟩) ci 4 1 (((P ++ ⟨r.n, (gz, cap9, r.n.2.2), false⟩ :: Q).map Row.is).map Value.bool), chS r.n, chS (gz, cap9, r.n.2.2)] ++ (rowsC P ++ rowsC Q)) (by simp [List.map_append, List.length_append]) ?_
    refine prm (RL_open ⟨g, some ⟨gn, 0, none⟩, cn, some ⟨gv, 0, none⟩, cw, some ⟨gi, 0, none⟩, ci⟩ P ⟨r.n, (gz, cap9, r.n.2.2), false⟩ Q fz' go).symm ?_
    have hfr2 := fr_open ⟨g, some ⟨gn, 0, none⟩, cn, some ⟨gv, 0, none⟩, cw, some ⟨gi, 0, none⟩, ci⟩ P r Q fz' go X w.heap.size (.inl hmg) hfr ⟨r.n, (gz, cap9, r.n.2.2), false⟩ hrn hgz fz' go
    refine c_round ⟨P ++ [⟨r.n, (gz, cap9, r.n.2.2), false⟩], Q, m9⟩ ⟨⟨P0 ++ [r], by rw [hr0]; simp, by simp [hs1], ?_⟩, by dsimp only; rw [List.append_assoc]; exact hfr2, by dsimp only; omega⟩ (by dsimp only; simp) ⟨by simp; rfl, rfl, rfl, trivial⟩ (by rfl) (by dsimp only; rw [List.append_assoc]; exact List.Sublist.refl _)
    intro r9 hr9
    rcases List.mem_append.1 hr9 with hr9 | hr9
    · exact hs2 r9 hr9
    · simp at hr9
      subst hr9
      exact ⟨rfl, rfl⟩
end Go.Proofs.Yteopejjlhmghbaa
namespace Go.Proofs.Yteopejjlhmghbaa
open Go Go.RowKit
set_option linter.unusedVariables false
set_option linter.unusedSimpArgs false
def cF (o f : Nat → Int) (kv : Int) (j0 j : Nat) : Int := if j < j0 then tornF o f kv j else f j
theorem cF_same (o f : Nat → Int) (kv : Int) (j0 : Nat) (h : tornF o f kv j0 = f j0) : secL (cF o f kv j0) 64 = secL (cF o f kv (j0 + 1)) 64 := by
  refine secL_congr fun j hj => ?_
  unfold cF
  by_cases h1 : j < j0
  · rw [if_pos h1, if_pos (by omega)]
  · rw [if_neg h1]
    by_cases h2 : j = j0
    · subst h2; rw [if_pos (by omega), h]
    · rw [if_neg (by omega)]
theorem cF_set (o f : Nat → Int) (kv : Int) (j0 : Nat) (hj : j0 < 64) (h : tornF o f kv j0 = o j0) : ((secL (cF o f kv j0) 64).map (Value.int .u8)).set j0 ((Value.int .u8) (o j0)) = (secL (cF o f kv (j0 + 1)) 64).map (Value.int .u8) := by
  rw [← List.map_set]
  congr 1
  apply List.ext_getElem
  · simp [secL]
  · intro q h1 h2
    simp only [secL, List.getElem_set, List.getElem_map, List.getElem_range]
    unfold cF
    by_cases e : j0 = q
    · subst e; rw [if_pos rfl, if_pos (by omega), h]
    · rw [if_neg e]
      by_cases h3 : q < j0
      · rw [if_pos h3, if_pos (by omega)]
      · rw [if_neg h3, if_neg (by omega)]
theorem cF_end (o f : Nat → Int) (kv : Int) : secL (cF o f kv 64) 64 = secL (tornF o f kv) 64 := secL_congr fun j hj => by unfold cF; rw [if_pos hj]
theorem cF_beg (o f : Nat → Int) (kv : Int) : secL (cF o f kv 0) 64 = secL f 64 := secL_congr fun j hj => by unfold cF; rw [if_neg (by omega)]
def rcN (fate : List Int) : Nat → List Row → List (Nat → Int)
  | _, [] => []
  | t, r :: rs => if r.is then tornF r.w.2.2 r.n.2.2 (fateN fate t) :: rcN fate (t + 1) rs else r.n.2.2 :: rcN fate t rs
theorem fateN_rng (fate : List Int) (hfr : ∀ x ∈ fate, 0 ≤ x ∧ x ≤ 255) (j : Nat) : 0 ≤ fateN fate j ∧ fateN fate j ≤ 255 := by
  unfold fateN
  by_cases hz : fate.length = 0
  · rw [if_pos hz]; omega
  · rw [if_neg hz, List.getElem?_eq_getElem (Nat.mod_lt _ (by omega))]
    exact hfr _ (List.getElem_mem _)
set_option maxRecDepth 100000 in
set_option maxHeartbeats 4000000 in
theorem rcrash_c (b : Rb) (rows : List Row) (fz : Int) (go : Bool) (k0 : Nat) (hbk : RbOK k0 rows.length b) (hn9 : rows.length ≤ 16384) (hJ0 : ∀ r ∈ rows, r.is = false → r.w.2.2 = r.n.2.2) (a : Option Addr) (fl cap0 : Nat) (fate : List Int) (hfl : fate.length = fl) (hfr9 : ∀ x ∈ fate, 0 ≤ x ∧ x ≤ 255) (hfc : fl ≤ 9223372036854775807) (w : World) (hs : SlE (Value.int .u8) w a fate) (hx : 0 < fl → ∀ g o, a = some ⟨g, o, none⟩ → g ∉ feet (RL b ⟨rows, fz, go⟩)) (hD : Has (RL b ⟨rows, fz, go⟩) w) :
    CA Try.prog 42 [.pointer (some ⟨b.g, 0, none⟩), .slice a fl cap0] w (Ret (fun _ : List Row => .tuple #[]) (feet (RL b ⟨rows, fz, go⟩)) (fun z => RL b ⟨z, -1, false⟩) (fun z => z.map (fun r => r.n.2.2) = rcN fate 0 rows ∧ (∀ r ∈ z, r.w.2.2 = r.n.2.2 ∧ r.is = false) ∧ z.length = rows.length) w) := by
  have hmg := mem_g b ⟨rows, fz, go⟩
  obtain ⟨X, hX⟩ : ∃ X, X = feet (RL b ⟨rows, fz, go⟩) := ⟨_, rfl⟩
  rw [← hX] at hmg hx
  have hXn : ∀ g, b.bn = some ⟨g, 0, none⟩ → g ∈ X := fun g h => by rw [hX]; exact mem_n b _ g h
  have hXw : ∀ g, b.bw = some ⟨g, 0, none⟩ → g ∈ X := fun g h => by rw [hX]; exact mem_w b _ g h
  have hXi : ∀ g, b.bi = some ⟨g, 0, none⟩ → g ∈ X := fun g h => by rw [hX]; exact mem_i b _ g h
  have hX0 : ∀ g ∈ feet (RL b ⟨rows, fz, go⟩), g ∈ X ∨ w.heap.size ≤ g := fun g h => .inl (by rw [hX]; exact h)
  rw [← hX]
  refine enter (L := RL b ⟨rows, fz, go⟩) (X := X) Try.func42 rfl Try.ntmps42 rfl rfl hD ?_
  repeat (first | refine c_seq ?_ | (refine c_region (id := 0) ?_; refine sq qa ?_; refine l_nil ?_) | (refine c_region (id := 1) ?_; refine sq qa ?_; refine l_nil ?_) | refine n_then ?_ | refine c_block ?_ | refine c_skip ?_ | refine n_block ?_ | refine c_exit ?_ | refine n_then_exit ?_ | refine n_block_eq ?_ | refine n_block_ne rfl ?_ | refine c_ret ?_ | refine n_then_ret ?_ | refine n_block_ret ?_ | refine c_cond_t rfl ?_ | refine c_cond_f rfl ?_ | refine r_succ ?_ )
  refine c_loop (γ := List Row × List Row × Nat × Nat) (fun z => [(5, .int .i64 z.1.length), (4, .int .i64 z.2.2.1), (0, .pointer (some ⟨b.g, 0, none⟩)), (1, .slice a fl cap0)]) (fun z => z.2.2.2) (fun z => RL b ⟨z.1 ++ z.2.1, fz, go⟩) (fun z => (z.1.map (fun r => r.n.2.2) ++ rcN fate z.2.2.1 z.2.1 = rcN fate 0 rows) ∧ (∀ r ∈ z.1, r.w.2.2 = r.n.2.2 ∧ r.is = false) ∧ (∀ r ∈ z.2.1, r.is = false → r.w.2.2 = r.n.2.2) ∧ (∀ g ∈ feet (RL b ⟨z.1 ++ z.2.1, fz, go⟩), g ∈ X ∨ w.heap.size ≤ g) ∧ w.heap.size ≤ z.2.2.2 ∧ (z.1.length + z.2.1.length = rows.length ∧ z.2.2.1 ≤ z.1.length)) (fun z => z.2.1.length) ⟨[], rows, 0, w.heap.size⟩ ⟨rfl, by simp, hJ0, hX0, Nat.le_refl _, by simp⟩ ⟨rfl, rfl, rfl, rfl, trivial⟩ rfl (List.Sublist.refl _) ?_
  rintro ⟨P, Q, t, mm⟩ ⟨hr0, hs2, hJ, hfr, hmm, hln, htl⟩
  dsimp only at hr0 hs2 hJ hfr hmm hln htl ⊢
  cases Q with
  | nil =>
    rw [List.append_nil] at hfr ⊢
    have hlp : P.length = rows.length := by simpa using hln
    rw [rcN, List.append_nil] at hr0
    refine chg (L' := [.blk b.g (.cells #[.slice b.bn P.length b.cn, .slice b.bw P.length b.cw, .slice b.bi P.length b.ci, .int .i64 fz, .bool go] 81 (0, 0)), .sl b.bn b.cn 33 1 ((P.map Row.n).map encS), .sl b.bw b.cw 33 1 ((P.map Row.w).map encS), .sl b.bi b.ci 4 1 ((P.map Row.is).map Value.bool)] ++ rowsC P) (by rfl) ?_
    repeat (first | refine c_seq ?_ | (refine c_region (id := 2) ?_; refine sq qm ?_; refine sq qm ?_; refine sq qn ?_; refine sq qf ?_; refine sq ql ?_; refine sq qls ?_; refine sq (by first | exact dlsst | exact dlssf) ?_; refine l_nil ?_) | (refine c_region (id := 17) ?_; refine sq qm ?_; refine sq qn ?_; refine sq qf ?_; refine se ?_; refine es1 ?_ (hg := .inl hmg); refine l_nil ?_) | (refine c_region (id := 18) ?_; refine sq qm ?_; refine sq qn ?_; refine sq qf ?_; refine se ?_; refine es1 ?_ (hg := .inl hmg); refine l_nil ?_) | refine n_then ?_ | refine c_block ?_ | refine c_skip ?_ | refine n_block ?_ | refine c_exit ?_ | refine n_then_exit ?_ | refine n_block_eq ?_ | refine n_block_ne rfl ?_ | refine c_ret ?_ | refine n_then_ret ?_ | refine n_block_ret ?_ | refine c_cond_t rfl ?_ | refine c_cond_f rfl ?_ | refine r_succ ?_ )
    (first | apply r_ret P | apply r_end P); exact rfl; exact rfl; exact .nil; exact rfl; exact (List.Sublist.refl _); exact hfr; exact ⟨hr0, hs2, hlp⟩
  | cons r Q =>
    have hl2 : (P ++ r :: Q).length = P.length + (Q.length + 1) := by simp
    have hl3 : P.length + (Q.length + 1) = rows.length := by simpa using hln
    obtain ⟨g, bn, cn, bw, cw, bi, ci⟩ := b
    obtain ⟨gn, hgn⟩ := hbk.on.some (by omega)
    obtain ⟨gv, hgv⟩ := hbk.ow.some (by omega)
    obtain ⟨gi, hgi⟩ := hbk.oi.some (by omega)
    dsimp only at hgn hgv hgi
    subst hgn hgv hgi
    have hmv := hXw gv rfl
    have hmi := hXi gi rfl
    have hgn2 := get_n P r Q
    have hgw2 := get_w P r Q
    have hgi2 := get_is P r Q
    have hrn : r.n.1 ∈ X ∨ w.heap.size ≤ r.n.1 := hfr _ (mem_rn _ _ r (by simp))
    have hrw : r.w.1 ∈ X ∨ w.heap.size ≤ r.w.1 := hfr _ (mem_rw _ _ r (by simp))
    dsimp only
    refine prm (RL_open _ _ _ _ _ _) ?_
    refine chg (L' := [.blk g (.cells #[.slice (some ⟨gn, 0, none⟩) (P ++ r :: Q).length cn, .slice (some ⟨gv, 0, none⟩) (P ++ r :: Q).length cw, .slice (some ⟨gi, 0, none⟩) (P ++ r :: Q).length ci, .int .i64 fz, .bool go] 81 (0, 0)), .sl (some ⟨gn, 0, none⟩) cn 33 1 (((P ++ r :: Q).map Row.n).map encS), .sl (some ⟨gv, 0, none⟩) cw 33 1 (((P ++ r :: Q).map Row.w).map encS), .sl (some ⟨gi, 0, none⟩) ci 4 1 (((P ++ r :: Q).map Row.is).map Value.bool), chS r.n, chS r.w] ++ (rowsC P ++ rowsC Q)) (by rfl) ?_
    cases hri : r.is with
    | false =>
      rw [hri] at hgi2
      repeat (first | refine c_seq ?_ | (refine c_region (id := 2) ?_; refine sq qm ?_; refine sq qm ?_; refine sq qn ?_; refine sq qf ?_; refine sq ql ?_; refine sq qls ?_; refine sq (by first | exact dlsst | exact dlssf) ?_; refine l_nil ?_) | (refine c_region (id := 3) ?_; refine sq qm ?_; refine sq (by exact Qt.cast (v' := .int .i64 ((P.length + 1 : Nat) : Int)) (congrArg (Value.int .i64) (by omega)) (q_add64 rfl rfl ⟨by omega, by omega⟩ rfl)) ?_; refine sq qa ?_; refine l_nil ?_) | (refine c_region (id := 4) ?_; refine sq qm ?_; refine sq qn ?_; refine sq qf ?_; refine sq ql ?_; refine sq qm ?_; refine sq qis ?_; refine sq (by exact ql (hr := Rd.sln (by (repeat (first | exact List.Mem.head _ | apply List.Mem.tail))) hgi2)) ?_; refine sq qnt ?_; refine l_nil ?_) | refine n_then ?_ | refine c_block ?_ | refine c_skip ?_ | refine n_block ?_ | refine c_exit ?_ | refine n_then_exit ?_ | refine n_block_eq ?_ | refine n_block_ne rfl ?_ | refine c_ret ?_ | refine n_then_ret ?_ | refine n_block_ret ?_ | refine c_cond_t rfl ?_ | refine c_cond_f rfl ?_ | refine r_succ ?_ )
      refine prm (RL_open ⟨g, some ⟨gn, 0, none⟩, cn, some ⟨gv, 0, none⟩, cw, some ⟨gi, 0, none⟩, ci⟩ P r Q fz go).symm ?_
      refine c_round (P ++ [r], Q, t, mm) ⟨?_, ?_, ?_, by dsimp only; rw [List.append_assoc]; exact hfr, hmm, by dsimp only; simp at hln ⊢; omega, by dsimp only; simp; omega⟩ (by dsimp only; simp) ⟨by simp; rfl, rfl, rfl, rfl, trivial⟩ (by rfl) (by dsimp only; rw [List.append_assoc]; exact List.Sublist.refl _)
      · dsimp only
        rw [← hr0]
        simp [rcN, hri]
      · intro r9 hr9
        rcases List.mem_append.1 hr9 with hr9 | hr9
        · exact hs2 r9 hr9
        · simp at hr9
          subst hr9
          exact ⟨hJ r9 (List.mem_cons_self ..) hri, hri⟩
      · exact fun r9 hr9 => hJ r9 (List.mem_cons_of_mem _ hr9)
    | true =>
      rw [hri] at hgi2
      have hfb := fateN_rng fate hfr9 t
      by_cases hz : fl = 0
      · have hf0 : fateN fate t = 0 := by unfold fateN; rw [if_pos (by omega)]
        repeat (first | refine c_seq ?_ | (refine c_region (id := 2) ?_; refine sq qm ?_; refine sq qm ?_; refine sq qn ?_; refine sq qf ?_; refine sq ql ?_; refine sq qls ?_; refine sq (by first | exact dlsst | exact dlssf) ?_; refine l_nil ?_) | (refine c_region (id := 4) ?_; refine sq qm ?_; refine sq qn ?_; refine sq qf ?_; refine sq ql ?_; refine sq qm ?_; refine sq qis ?_; refine sq (by exact ql (hr := Rd.sln (by (repeat (first | exact List.Mem.head _ | apply List.Mem.tail))) hgi2)) ?_; refine sq qnt ?_; refine l_nil ?_) | (refine c_region (id := 5) ?_; refine sq qa ?_; refine l_nil ?_) | (refine c_region (id := 6) ?_; refine sq qm ?_; refine sq qls ?_; refine sq (by first | exact dgtrt | exact dgtrf) ?_; refine l_nil ?_) | (refine c_region (id := 8) ?_; refine sq qm ?_; refine sq (by exact Qt.cast (v' := .int .i64 ((t + 1 : Nat) : Int)) (congrArg (Value.int .i64) (by omega)) (q_add64 rfl rfl ⟨by omega, by omega⟩ rfl)) ?_; refine sq qa ?_; refine l_nil ?_) | (refine c_region (id := 9) ?_; refine sq qa ?_; refine l_nil ?_) | refine n_then ?_ | refine c_block ?_ | refine c_skip ?_ | refine n_block ?_ | refine c_exit ?_ | refine n_then_exit ?_ | refine n_block_eq ?_ | refine n_block_ne rfl ?_ | refine c_ret ?_ | refine n_then_ret ?_ | refine n_block_ret ?_ | refine c_cond_t rfl ?_ | refine c_cond_f rfl ?_ | refine r_succ ?_ )
        refine chg (L' := [.blk g (.cells #[.slice (some ⟨gn, 0, none⟩) (P ++ r :: Q).length cn, .slice (some ⟨gv, 0, none⟩) (P ++ r :: Q).length cw, .slice (some ⟨gi, 0, none⟩) (P ++ r :: Q).length ci, .int .i64 fz, .bool go] 81 (0, 0)), .sl (some ⟨gn, 0, none⟩) cn 33 1 (((P ++ r :: Q).map Row.n).map encS), .sl (some ⟨gv, 0, none⟩) cw 33 1 (((P ++ r :: Q).map Row.w).map encS), .sl (some ⟨gi, 0, none⟩) ci 4 1 (((P ++ r :: Q).map Row.is).map Value.bool), .sl (some ⟨r.n.1, 0, none⟩) r.n.2.1 5 1 ((secL (cF r.w.2.2 r.n.2.2 (0 : Int) 0) 64).map (Value.int .u8)), chS r.w] ++ (rowsC P ++ rowsC Q)) (by rw [cF_beg]; try rfl) ?_
        refine c_loop (γ := Nat) (fun j => [(7, .int .i64 j), (6, .int .i64 (0 : Int)), (5, .int .i64 P.length), (4, .int .i64 ((t + 1 : Nat) : Int)), (0, .pointer (some ⟨g, 0, none⟩)), (1, .slice a fl cap0)]) (fun _ => mm) (fun j => [.blk g (.cells #[.slice (some ⟨gn, 0, none⟩) (P ++ r :: Q).length cn, .slice (some ⟨gv, 0, none⟩) (P ++ r :: Q).length cw, .slice (some ⟨gi, 0, none⟩) (P ++ r :: Q).length ci, .int .i64 fz, .bool go] 81 (0, 0)), .sl (some ⟨gn, 0, none⟩) cn 33 1 (((P ++ r :: Q).map Row.n).map encS), .sl (some ⟨gv, 0, none⟩) cw 33 1 (((P ++ r :: Q).map Row.w).map encS), .sl (some ⟨gi, 0, none⟩) ci 4 1 (((P ++ r :: Q).map Row.is).map Value.bool), .sl (some ⟨r.n.1, 0, none⟩) r.n.2.1 5 1 ((secL (cF r.w.2.2 r.n.2.2 (0 : Int) j) 64).map (Value.int .u8)), chS r.w] ++ (rowsC P ++ rowsC Q)) (fun j => j ≤ 64) (fun j => 64 - j) 0 (by omega) ⟨rfl, rfl, rfl, rfl, rfl, rfl, trivial⟩ rfl (List.Sublist.refl _) ?_
        · intro j hj
          by_cases h64 : j < 64
          · have hoj : nth ((secL r.w.2.2 64).map (Value.int .u8)) j = some ((Value.int .u8) (r.w.2.2 j)) := nth_map (by simp [secL, h64])
            by_cases hst : ((0 : Int) < 128 ∧ (j : Int) < (0 : Int)) ∨ (¬ (0 : Int) < 128 ∧ 64 - (j : Int) ≤ (0 : Int) - 128)
            · have hsame : tornF r.w.2.2 r.n.2.2 (0 : Int) j = r.n.2.2 j := by
                unfold tornF
                rcases hst with ⟨h1, h2⟩ | ⟨h1, h2⟩
                · rw [if_pos h1, if_pos (by omega)]
                · rw [if_neg h1, if_neg (by omega)]
              have hcs := cF_same r.w.2.2 r.n.2.2 (0 : Int) j hsame
              by_cases h128 : (0 : Int) < 128
              · have hjk : (j : Int) < (0 : Int) := by omega
                repeat (first | refine c_seq ?_ | (refine c_region (id := 10) ?_; refine sq qm ?_; refine sq (by first | exact dlsst | exact dlssf) ?_; refine l_nil ?_) | (refine c_region (id := 11) ?_; refine sq qm ?_; refine sq (by exact Qt.cast (v' := .int .i64 ((j + 1 : Nat) : Int)) (congrArg (Value.int .i64) (by omega)) (q_add64 rfl rfl ⟨by omega, by omega⟩ rfl)) ?_; refine sq qa ?_; refine l_nil ?_) | (refine c_region (id := 12) ?_; refine sq qm ?_; refine sq (by first | exact dlsst | exact dlssf) ?_; refine sq qm ?_; (first | refine sk ?_ | refine skv ?_ | (refine st_want rfl rfl ?_; refine sq qm ?_)); (first | refine sk ?_ | refine skv ?_ | (refine st_want rfl rfl ?_; refine sq qm ?_)); (first | refine sk ?_ | refine skv ?_ | (refine st_want rfl rfl ?_; refine sq (by first | exact dlsst | exact dlssf) ?_)); refine sq (by first | exact qpt | exact qpf) ?_; refine sq qm ?_; (first | refine sk ?_ | refine skv ?_ | (refine st_want rfl rfl ?_; refine sq qm ?_)); (first | refine sk ?_ | refine skv ?_ | (refine st_want rfl rfl ?_; refine sq (by first | exact dgeqt | exact dgeqf) ?_)); (first | refine sk ?_ | refine skv ?_ | (refine st_want rfl rfl ?_; refine sq qm ?_)); (first | refine sk ?_ | refine skv ?_ | (refine st_want rfl rfl ?_; refine sq qm ?_)); (first | refine sk ?_ | refine skv ?_ | (refine st_want rfl rfl ?_; refine sq qsub64 ?_)); (first | refine sk ?_ | refine skv ?_ | (refine st_want rfl rfl ?_; refine sq qm ?_)); (first | refine sk ?_ | refine skv ?_ | (refine st_want rfl rfl ?_; refine sq qsub64 ?_)); (first | refine sk ?_ | refine skv ?_ | (refine st_want rfl rfl ?_; refine sq (by first | exact dleqt | exact dleqf) ?_)); (first | refine sk ?_ | refine skv ?_ | (refine st_want rfl rfl ?_; refine sq (by first | exact qpt | exact qpf) ?_)); refine sq (by first | exact qpt | exact qpf) ?_; refine sq qa ?_; refine l_nil ?_) | (refine c_region (id := 13) ?_; refine sq qm ?_; refine sq qnt ?_; refine l_nil ?_) | refine n_then ?_ | refine c_block ?_ | refine c_skip ?_ | refine n_block ?_ | refine c_exit ?_ | refine n_then_exit ?_ | refine n_block_eq ?_ | refine n_block_ne rfl ?_ | refine c_ret ?_ | refine n_then_ret ?_ | refine n_block_ret ?_ | refine c_cond_t rfl ?_ | refine c_cond_f rfl ?_ | refine r_succ ?_ )
                refine c_round (γ := Nat) (j + 1) (by omega) (by omega) ⟨by rfl, rfl, rfl, rfl, rfl, rfl, trivial⟩ (by rfl) (by rw [← hcs]; exact List.Sublist.refl _)
              · exact absurd (by decide) h128
            · have hother : tornF r.w.2.2 r.n.2.2 (0 : Int) j = r.w.2.2 j := by
                unfold tornF
                by_cases h1 : (0 : Int) < 128
                · rw [if_pos h1, if_neg (by omega)]
                · rw [if_neg h1, if_pos (by omega)]
              have hcs := cF_set r.w.2.2 r.n.2.2 (0 : Int) j h64 hother
              by_cases h128 : (0 : Int) < 128
              · have hjk : ¬ (j : Int) < (0 : Int) := by omega
                repeat (first | refine c_seq ?_ | (refine c_region (id := 10) ?_; refine sq qm ?_; refine sq (by first | exact dlsst | exact dlssf) ?_; refine l_nil ?_) | (refine c_region (id := 11) ?_; refine sq qm ?_; refine sq (by exact Qt.cast (v' := .int .i64 ((j + 1 : Nat) : Int)) (congrArg (Value.int .i64) (by omega)) (q_add64 rfl rfl ⟨by omega, by omega⟩ rfl)) ?_; refine sq qa ?_; refine l_nil ?_) | (refine c_region (id := 12) ?_; refine sq qm ?_; refine sq (by first | exact dlsst | exact dlssf) ?_; refine sq qm ?_; (first | refine sk ?_ | refine skv ?_ | (refine st_want rfl rfl ?_; refine sq qm ?_)); (first | refine sk ?_ | refine skv ?_ | (refine st_want rfl rfl ?_; refine sq qm ?_)); (first | refine sk ?_ | refine skv ?_ | (refine st_want rfl rfl ?_; refine sq (by first | exact dlsst | exact dlssf) ?_)); refine sq (by first | exact qpt | exact qpf) ?_; refine sq qm ?_; (first | refine sk ?_ | refine skv ?_ | (refine st_want rfl rfl ?_; refine sq qm ?_)); (first | refine sk ?_ | refine skv ?_ | (refine st_want rfl rfl ?_; refine sq (by first | exact dgeqt | exact dgeqf) ?_)); (first | refine sk ?_ | refine skv ?_ | (refine st_want rfl rfl ?_; refine sq qm ?_)); (first | refine sk ?_ | refine skv ?_ | (refine st_want rfl rfl ?_; refine sq qm ?_)); (first | refine sk ?_ | refine skv ?_ | (refine st_want rfl rfl ?_; refine sq qsub64 ?_)); (first | refine sk ?_ | refine skv ?_ | (refine st_want rfl rfl ?_; refine sq qm ?_)); (first | refine sk ?_ | refine skv ?_ | (refine st_want rfl rfl ?_; refine sq qsub64 ?_)); (first | refine sk ?_ | refine skv ?_ | (refine st_want rfl rfl ?_; refine sq (by first | exact dleqt | exact dleqf) ?_)); (first | refine sk ?_ | refine skv ?_ | (refine st_want rfl rfl ?_; refine sq (by first | exact qpt | exact qpf) ?_)); refine sq (by first | exact qpt | exact qpf) ?_; refine sq qa ?_; refine l_nil ?_) | (refine c_region (id := 13) ?_; refine sq qm ?_; refine sq qnt ?_; refine l_nil ?_) | (refine x_region (id := 14) (some 19) [(0, .n), (1, .n), (2, .n), (3, .q), (4, .n), (5, .n), (6, .q), (7, .n), (8, .n), (9, .n), (10, .n), (11, .q), (12, .n), (13, .n), (14, .q), (15, .n), (16, .n), (17, .q), (18, .n), (19, .b)] _ mixed (by kernel_rfl) (List.Sublist.refl _) ?_; refine xn rfl qm ?_; refine xn rfl qn ?_; refine xn rfl qf ?_; refine xq rfl ql ?_; refine xn rfl qm ?_; refine xn rfl qis ?_; refine xq rfl (by exact ql (hr := Rd.sln (by (repeat (first | exact List.Mem.head _ | apply List.Mem.tail))) hgn2)) ?_; refine xn rfl qm ?_; refine xn rfl qm ?_; refine xn rfl qn ?_; refine xn rfl qf ?_; refine xq rfl ql ?_; refine xn rfl qm ?_; refine xn rfl qis ?_; refine xq rfl (by exact ql (hr := Rd.sln (by (repeat (first | exact List.Mem.head _ | apply List.Mem.tail))) hgw2)) ?_; refine xn rfl qm ?_; refine xn rfl qis ?_; refine xq rfl (by exact ql (hr := Rd.sln (by (repeat (first | exact List.Mem.head _ | apply List.Mem.tail))) hoj)) ?_; refine xn rfl qis ?_; refine x_b rfl ?_; refine es3 ?_ (hoff := by simp [secL_len]; omega) (hg := hrn); refine x_k (List.nil_sublist _) ?_; refine x_nil ?_) | refine n_then ?_ | refine c_block ?_ | refine c_skip ?_ | refine n_block ?_ | refine c_exit ?_ | refine n_then_exit ?_ | refine n_block_eq ?_ | refine n_block_ne rfl ?_ | refine c_ret ?_ | refine n_then_ret ?_ | refine n_block_ret ?_ | refine c_cond_t rfl ?_ | refine c_cond_f rfl ?_ | refine r_succ ?_ )
                refine c_round (γ := Nat) (j + 1) (by omega) (by omega) ⟨by rfl, rfl, rfl, rfl, rfl, rfl, trivial⟩ (by rfl) (by rw [hcs]; exact List.Sublist.refl _)
              · exact absurd (by decide) h128
          · obtain rfl : j = 64 := by omega
            rw [cF_end]
            repeat (first | refine c_seq ?_ | (refine c_region (id := 3) ?_; refine sq qm ?_; refine sq (by exact Qt.cast (v' := .int .i64 ((P.length + 1 : Nat) : Int)) (congrArg (Value.int .i64) (by omega)) (q_add64 rfl rfl ⟨by omega, by omega⟩ rfl)) ?_; refine sq qa ?_; refine l_nil ?_) | (refine c_region (id := 10) ?_; refine sq qm ?_; refine sq (by first | exact dlsst | exact dlssf) ?_; refine l_nil ?_) | (refine x_region (id := 15) (some 15) [(0, .n), (1, .n), (2, .n), (3, .q), (4, .n), (6, .n), (7, .n), (8, .n), (9, .q), (10, .n), (11, .n), (12, .q), (5, .e), (13, .e), (14, .n), (15, .b)] _ mixed (by kernel_rfl) (List.Sublist.refl _) ?_; refine xn rfl qm ?_; refine xn rfl qn ?_; refine xn rfl qf ?_; refine xq rfl ql ?_; refine xn rfl qm ?_; refine xn rfl qm ?_; refine xn rfl qn ?_; refine xn rfl qf ?_; refine xq rfl ql ?_; refine xn rfl qm ?_; refine xn rfl qis ?_; refine xq rfl (by exact ql (hr := Rd.sln (by (repeat (first | exact List.Mem.head _ | apply List.Mem.tail))) hgn2)) ?_; refine x_e rfl ?_; refine e_buildSlice0 rfl ?_; refine xk ?_; refine x_e rfl ?_; refine e_appE (Value.int .u8) ([] : List Int) (secL (tornF r.w.2.2 r.n.2.2 (0 : Int)) 64) rfl rfl rfl (by (repeat (first | exact Rm.here | apply Rm.there))) (Vw.own (.inr ⟨_, rfl⟩) (by (repeat (first | exact List.Mem.head _ | apply List.Mem.tail)))) rfl (secL_len _ _) ⟨Nat.le_refl _, by omega, .inr ⟨_, rfl⟩, fun g9 hg9 => .inr (by simp [Chunk.foot] at hg9; omega)⟩ (allOne_u8c _) (by omega) (by omega) ?_; intro b9 cap9 m9 ho9 hm9; refine xk ?_; refine xn rfl qis ?_; refine x_b rfl ?_; refine es3 ?_ (hoff := by simp) (hg := .inl hmv); refine x_k (List.nil_sublist _) ?_; refine x_nil ?_) | (refine c_region (id := 16) ?_; refine sq qm ?_; refine sq qn ?_; refine sq qf ?_; refine sq ql ?_; refine sq qm ?_; refine sq qis ?_; refine se ?_; refine es3 ?_ (hoff := by simp) (hg := .inl hmi); refine l_nil ?_) | refine n_then ?_ | refine c_block ?_ | refine c_skip ?_ | refine n_block ?_ | refine c_exit ?_ | refine n_then_exit ?_ | refine n_block_eq ?_ | refine n_block_ne rfl ?_ | refine c_ret ?_ | refine n_then_ret ?_ | refine n_block_ret ?_ | refine c_cond_t rfl ?_ | refine c_cond_f rfl ?_ | refine r_succ ?_ )
            rw [Nat.zero_add] at ho9 ⊢
            obtain ⟨gz, rfl⟩ := ho9.some (by omega)
            have hgz : gz ∈ X ∨ w.heap.size ≤ gz := ho9.new gz (by simp [Chunk.foot])
            rw [set_w P r ⟨(r.n.1, r.n.2.1, (tornF r.w.2.2 r.n.2.2 (0 : Int))), (gz, cap9, (tornF r.w.2.2 r.n.2.2 (0 : Int))), false⟩ Q, set_is P r ⟨(r.n.1, r.n.2.1, (tornF r.w.2.2 r.n.2.2 (0 : Int))), (gz, cap9, (tornF r.w.2.2 r.n.2.2 (0 : Int))), false⟩ Q]
            refine fgsT (A := [.blk g (.cells #[.slice (some ⟨gn, 0, none⟩) (P ++ r :: Q).length cn, .slice (some ⟨gv, 0, none⟩) (P ++ r :: Q).length cw, .slice (some ⟨gi, 0, none⟩) (P ++ r :: Q).length ci, .int .i64 fz, .bool go] 81 (0, 0)), .sl (some ⟨gn, 0, none⟩) cn 33 1 (((P ++ r :: Q).map Row.n).map encS), .sl (some ⟨gv, 0, none⟩) cw 33 1 (((P ++ ⟨(r.n.1, r.n.2.1, (tornF r.w.2.2 r.n.2.2 (0 : Int))), (gz, cap9, (tornF r.w.2.2 r.n.2.2 (0 : Int))), false⟩ :: Q).map Row.w).map encS), .sl (some ⟨gi, 0, none⟩) ci 4 1 (((P ++ ⟨(r.n.1, r.n.2.1, (tornF r.w.2.2 r.n.2.2 (0 : Int))), (gz, cap9, (tornF r.w.2.2 r.n.2.2 (0 : Int))), false⟩ :: Q).map Row.is).map Value.bool), chS (r.n.1, r.n.2.1, (tornF r.w.2.2 r.n.2.2 (0 : Int))), chS (gz, cap9, (tornF r.w.2.2 r.n.2.2 (0 : Int)))]) (T := rowsC P ++ rowsC Q) (by repeat (first | exact Sp.nil | (apply Sp.cons; focus (repeat (first | exact Rm.here | apply Rm.there))))) (by (repeat (first | exact List.nil_sublist _ | exact List.Sublist.slnil | apply List.Sublist.cons_cons | exact List.Sublist.refl _ | apply List.Sublist.cons))) ?_
            refine chg (L' := [.blk g (.cells #[.slice (some ⟨gn, 0, none⟩) (P ++ ⟨(r.n.1, r.n.2.1, (tornF r.w.2.2 r.n.2.2 (0 : Int))), (gz, cap9, (tornF r.w.2.2 r.n.2.2 (0 : Int))), false⟩ :: Q).length cn, .slice (some ⟨gv, 0, none⟩) (P ++ ⟨(r.n.1, r.n.2.1, (tornF r.w.2.2 r.n.2.2 (0 : Int))), (gz, cap9, (tornF r.w.2.2 r.n.2.2 (0 : Int))), false⟩ :: Q).length cw, .slice (some ⟨gi, 0, none⟩) (P ++ ⟨(r.n.1, r.n.2.1, (tornF r.w.2.2 r.n.2.2 (0 : Int))), (gz, cap9, (tornF r.w.2.2 r.n.2.2 (0 : Int))), false⟩ :: Q).length ci, .int .i64 fz, .bool go] 81 (0, 0)), .sl (some ⟨gn, 0, none⟩) cn 33 1 (((P ++ ⟨(r.n.1, r.n.2.1, (tornF r.w.2.2 r.n.2.2 (0 : Int))), (gz, cap9, (tornF r.w.2.2 r.n.2.2 (0 : Int))), false⟩ :: Q).map Row.n).map encS), .sl (some ⟨gv, 0, none⟩) cw 33 1 (((P ++ ⟨(r.n.1, r.n.2.1, (tornF r.w.2.2 r.n.2.2 (0 : Int))), (gz, cap9, (tornF r.w.2.2 r.n.2.2 (0 : Int))), false⟩ :: Q).map Row.w).map encS), .sl (some ⟨gi, 0, none⟩) ci 4 1 (((P ++ ⟨(r.n.1, r.n.2.1, (tornF r.w.2.2 r.n.2.2 (0 : Int))), (gz, cap9, (tornF r.w.2.2 r.n.2.2 (0 : Int))), false⟩ :: Q).map Row.is).map Value.bool), chS (r.n.1, r.n.2.1, (tornF r.w.2.2 r.n.2.2 (0 : Int))), chS (gz, cap9, (tornF r.w.2.2 r.n.2.2 (0 : Int)))] ++ (rowsC P ++ rowsC Q)) (by simp [List.map_append, List.length_append]) ?_
            refine prm (RL_open ⟨g, some ⟨gn, 0, none⟩, cn, some ⟨gv, 0, none⟩, cw, some ⟨gi, 0, none⟩, ci⟩ P ⟨(r.n.1, r.n.2.1, (tornF r.w.2.2 r.n.2.2 (0 : Int))), (gz, cap9, (tornF r.w.2.2 r.n.2.2 (0 : Int))), false⟩ Q fz go).symm ?_
            have hfr2 := fr_open ⟨g, some ⟨gn, 0, none⟩, cn, some ⟨gv, 0, none⟩, cw, some ⟨gi, 0, none⟩, ci⟩ P r Q fz go X w.heap.size (.inl hmg) hfr ⟨(r.n.1, r.n.2.1, (tornF r.w.2.2 r.n.2.2 (0 : Int))), (gz, cap9, (tornF r.w.2.2 r.n.2.2 (0 : Int))), false⟩ hrn hgz fz go
            refine c_round (P ++ [⟨(r.n.1, r.n.2.1, (tornF r.w.2.2 r.n.2.2 (0 : Int))), (gz, cap9, (tornF r.w.2.2 r.n.2.2 (0 : Int))), false⟩], Q, t + 1, m9) ⟨?_, ?_, ?_, by dsimp only; rw [List.append_assoc]; exact hfr2, by dsimp only; omega, ?_⟩ (by dsimp only; simp) ⟨by simp; rfl, rfl, rfl, rfl, trivial⟩ (by rfl) (by dsimp only; rw [List.append_assoc]; exact List.Sublist.refl _)
            · dsimp only
              rw [← hr0]
              simp only [List.map_append, List.map_cons, List.map_nil, rcN, hri, if_true, hf0, List.append_assoc, List.cons_append, List.nil_append]
            · intro r9 hr9
              rcases List.mem_append.1 hr9 with hr9 | hr9
              · exact hs2 r9 hr9
              · simp at hr9
                subst hr9
                exact ⟨rfl, rfl⟩
            · exact fun r9 hr9 => hJ r9 (List.mem_cons_of_mem _ hr9)
            · dsimp only
              simp at hln ⊢
              omega
      · obtain ⟨q, hq⟩ : ∃ q, fate[t % fl]? = some q := ⟨_, List.getElem?_eq_getElem (by rw [hfl]; exact Nat.mod_lt _ (by omega))⟩
        have hf0 : fateN fate t = q := by unfold fateN; rw [if_neg (by omega), hfl, hq]; rfl
        rw [hf0] at hfb
        obtain ⟨gf, of, rfl, hO⟩ := hs.get (i := t % fl) (by rw [hfl]; exact Nat.mod_lt _ (by omega))
        have hx2 := hx (by omega) gf of rfl
        have hnk := nth_map (enc := (Value.int .u8)) hq
        obtain ⟨q9, hq9⟩ : ∃ q9, q9 = t % fl := ⟨_, rfl⟩
        have hql : q9 < fl := by rw [hq9]; exact Nat.mod_lt _ (by omega)
        have hqi : (t : Int) % (fl : Int) = (q9 : Int) := by rw [hq9]; rfl
        rw [← hq9] at hnk
        repeat (first | refine c_seq ?_ | (refine c_region (id := 2) ?_; refine sq qm ?_; refine sq qm ?_; refine sq qn ?_; refine sq qf ?_; refine sq ql ?_; refine sq qls ?_; refine sq (by first | exact dlsst | exact dlssf) ?_; refine l_nil ?_) | (refine c_region (id := 4) ?_; refine sq qm ?_; refine sq qn ?_; refine sq qf ?_; refine sq ql ?_; refine sq qm ?_; refine sq qis ?_; refine sq (by exact ql (hr := Rd.sln (by (repeat (first | exact List.Mem.head _ | apply List.Mem.tail))) hgi2)) ?_; refine sq qnt ?_; refine l_nil ?_) | (refine c_region (id := 5) ?_; refine sq qa ?_; refine l_nil ?_) | (refine c_region (id := 6) ?_; refine sq qm ?_; refine sq qls ?_; refine sq (by first | exact dgtrt | exact dgtrf) ?_; refine l_nil ?_) | (refine c_region (id := 7) ?_; refine sq qm ?_; refine sq qm ?_; refine sq qm ?_; refine sq qls ?_; refine sq (by exact Qt.cast (congrArg (Value.int .i64) hqi) (q_rem rfl rfl (by omega) (by omega))) ?_; refine sq qis ?_; refine sq (by exact ql (hr := Rd.oldn hO hnk hx2)) ?_; refine sq qci ?_; refine sq qa ?_; refine l_nil ?_) | (refine c_region (id := 8) ?_; refine sq qm ?_; refine sq (by exact Qt.cast (v' := .int .i64 ((t + 1 : Nat) : Int)) (congrArg (Value.int .i64) (by omega)) (q_add64 rfl rfl ⟨by omega, by omega⟩ rfl)) ?_; refine sq qa ?_; refine l_nil ?_) | (refine c_region (id := 9) ?_; refine sq qa ?_; refine l_nil ?_) | refine n_then ?_ | refine c_block ?_ | refine c_skip ?_ | refine n_block ?_ | refine c_exit ?_ | refine n_then_exit ?_ | refine n_block_eq ?_ | refine n_block_ne rfl ?_ | refine c_ret ?_ | refine n_then_ret ?_ | refine n_block_ret ?_ | refine c_cond_t rfl ?_ | refine c_cond_f rfl ?_ | refine r_succ ?_ )
        refine chg (L' := [.blk g (.cells #[.slice (some ⟨gn, 0, none⟩) (P ++ r :: Q).length cn, .slice (some ⟨gv, 0, none⟩) (P ++ r :: Q).length cw, .slice (some ⟨gi, 0, none⟩) (P ++ r :: Q).length ci, .int .i64 fz, .bool go] 81 (0, 0)), .sl (some ⟨gn, 0, none⟩) cn 33 1 (((P ++ r :: Q).map Row.n).map encS), .sl (some ⟨gv, 0, none⟩) cw 33 1 (((P ++ r :: Q).map Row.w).map encS), .sl (some ⟨gi, 0, none⟩) ci 4 1 (((P ++ r :: Q).map Row.is).map Value.bool), .sl (some ⟨r.n.1, 0, none⟩) r.n.2.1 5 1 ((secL (cF r.w.2.2 r.n.2.2 (q) 0) 64).map (Value.int .u8)), chS r.w] ++ (rowsC P ++ rowsC Q)) (by rw [cF_beg]; try rfl) ?_
        refine c_loop (γ := Nat) (fun j => [(7, .int .i64 j), (6, .int .i64 (q)), (5, .int .i64 P.length), (4, .int .i64 ((t + 1 : Nat) : Int)), (0, .pointer (some ⟨g, 0, none⟩)), (1, .slice (some ⟨gf, of, none⟩) fl cap0)]) (fun _ => mm) (fun j => [.blk g (.cells #[.slice (some ⟨gn, 0, none⟩) (P ++ r :: Q).length cn, .slice (some ⟨gv, 0, none⟩) (P ++ r :: Q).length cw, .slice (some ⟨gi, 0, none⟩) (P ++ r :: Q).length ci, .int .i64 fz, .bool go] 81 (0, 0)), .sl (some ⟨gn, 0, none⟩) cn 33 1 (((P ++ r :: Q).map Row.n).map encS), .sl (some ⟨gv, 0, none⟩) cw 33 1 (((P ++ r :: Q).map Row.w).map encS), .sl (some ⟨gi, 0, none⟩) ci 4 1 (((P ++ r :: Q).map Row.is).map Value.bool), .sl (some ⟨r.n.1, 0, none⟩) r.n.2.1 5 1 ((secL (cF r.w.2.2 r.n.2.2 (q) j) 64).map (Value.int .u8)), chS r.w] ++ (rowsC P ++ rowsC Q)) (fun j => j ≤ 64) (fun j => 64 - j) 0 (by omega) ⟨rfl, rfl, rfl, rfl, rfl, rfl, trivial⟩ rfl (List.Sublist.refl _) ?_
        · intro j hj
          by_cases h64 : j < 64
          · have hoj : nth ((secL r.w.2.2 64).map (Value.int .u8)) j = some ((Value.int .u8) (r.w.2.2 j)) := nth_map (by simp [secL, h64])
            by_cases hst : ((q) < 128 ∧ (j : Int) < (q)) ∨ (¬ (q) < 128 ∧ 64 - (j : Int) ≤ (q) - 128)
            · have hsame : tornF r.w.2.2 r.n.2.2 (q) j = r.n.2.2 j := by
                unfold tornF
                rcases hst with ⟨h1, h2⟩ | ⟨h1, h2⟩
                · rw [if_pos h1, if_pos (by omega)]
                · rw [if_neg h1, if_neg (by omega)]
              have hcs := cF_same r.w.2.2 r.n.2.2 (q) j hsame
              by_cases h128 : (q) < 128
              · have hjk : (j : Int) < (q) := by omega
                repeat (first | refine c_seq ?_ | (refine c_region (id := 10) ?_; refine sq qm ?_; refine sq (by first | exact dlsst | exact dlssf) ?_; refine l_nil ?_) | (refine c_region (id := 11) ?_; refine sq qm ?_; refine sq (by exact Qt.cast (v' := .int .i64 ((j + 1 : Nat) : Int)) (congrArg (Value.int .i64) (by omega)) (q_add64 rfl rfl ⟨by omega, by omega⟩ rfl)) ?_; refine sq qa ?_; refine l_nil ?_) | (refine c_region (id := 12) ?_; refine sq qm ?_; refine sq (by first | exact dlsst | exact dlssf) ?_; refine sq qm ?_; (first | refine sk ?_ | refine skv ?_ | (refine st_want rfl rfl ?_; refine sq qm ?_)); (first | refine sk ?_ | refine skv ?_ | (refine st_want rfl rfl ?_; refine sq qm ?_)); (first | refine sk ?_ | refine skv ?_ | (refine st_want rfl rfl ?_; refine sq (by first | exact dlsst | exact dlssf) ?_)); refine sq (by first | exact qpt | exact qpf) ?_; refine sq qm ?_; (first | refine sk ?_ | refine skv ?_ | (refine st_want rfl rfl ?_; refine sq qm ?_)); (first | refine sk ?_ | refine skv ?_ | (refine st_want rfl rfl ?_; refine sq (by first | exact dgeqt | exact dgeqf) ?_)); (first | refine sk ?_ | refine skv ?_ | (refine st_want rfl rfl ?_; refine sq qm ?_)); (first | refine sk ?_ | refine skv ?_ | (refine st_want rfl rfl ?_; refine sq qm ?_)); (first | refine sk ?_ | refine skv ?_ | (refine st_want rfl rfl ?_; refine sq qsub64 ?_)); (first | refine sk ?_ | refine skv ?_ | (refine st_want rfl rfl ?_; refine sq qm ?_)); (first | refine sk ?_ | refine skv ?_ | (refine st_want rfl rfl ?_; refine sq qsub64 ?_)); (first | refine sk ?_ | refine skv ?_ | (refine st_want rfl rfl ?_; refine sq (by first | exact dleqt | exact dleqf) ?_)); (first | refine sk ?_ | refine skv ?_ | (refine st_want rfl rfl ?_; refine sq (by first | exact qpt | exact qpf) ?_)); refine sq (by first | exact qpt | exact qpf) ?_; refine sq qa ?_; refine l_nil ?_) | (refine c_region (id := 13) ?_; refine sq qm ?_; refine sq qnt ?_; refine l_nil ?_) | refine n_then ?_ | refine c_block ?_ | refine c_skip ?_ | refine n_block ?_ | refine c_exit ?_ | refine n_then_exit ?_ | refine n_block_eq ?_ | refine n_block_ne rfl ?_ | refine c_ret ?_ | refine n_then_ret ?_ | refine n_block_ret ?_ | refine c_cond_t rfl ?_ | refine c_cond_f rfl ?_ | refine r_succ ?_ )
                refine c_round (γ := Nat) (j + 1) (by omega) (by omega) ⟨by rfl, rfl, rfl, rfl, rfl, rfl, trivial⟩ (by rfl) (by rw [← hcs]; exact List.Sublist.refl _)
              · have hjk : 64 - (j : Int) ≤ (q) - 128 := by omega
                repeat (first | refine c_seq ?_ | (refine c_region (id := 10) ?_; refine sq qm ?_; refine sq (by first | exact dlsst | exact dlssf) ?_; refine l_nil ?_) | (refine c_region (id := 11) ?_; refine sq qm ?_; refine sq (by exact Qt.cast (v' := .int .i64 ((j + 1 : Nat) : Int)) (congrArg (Value.int .i64) (by omega)) (q_add64 rfl rfl ⟨by omega, by omega⟩ rfl)) ?_; refine sq qa ?_; refine l_nil ?_) | (refine c_region (id := 12) ?_; refine sq qm ?_; refine sq (by first | exact dlsst | exact dlssf) ?_; refine sq qm ?_; (first | refine sk ?_ | refine skv ?_ | (refine st_want rfl rfl ?_; refine sq qm ?_)); (first | refine sk ?_ | refine skv ?_ | (refine st_want rfl rfl ?_; refine sq qm ?_)); (first | refine sk ?_ | refine skv ?_ | (refine st_want rfl rfl ?_; refine sq (by first | exact dlsst | exact dlssf) ?_)); refine sq (by first | exact qpt | exact qpf) ?_; refine sq qm ?_; (first | refine sk ?_ | refine skv ?_ | (refine st_want rfl rfl ?_; refine sq qm ?_)); (first | refine sk ?_ | refine skv ?_ | (refine st_want rfl rfl ?_; refine sq (by first | exact dgeqt | exact dgeqf) ?_)); (first | refine sk ?_ | refine skv ?_ | (refine st_want rfl rfl ?_; refine sq qm ?_)); (first | refine sk ?_ | refine skv ?_ | (refine st_want rfl rfl ?_; refine sq qm ?_)); (first | refine sk ?_ | refine skv ?_ | (refine st_want rfl rfl ?_; refine sq qsub64 ?_)); (first | refine sk ?_ | refine skv ?_ | (refine st_want rfl rfl ?_; refine sq qm ?_)); (first | refine sk ?_ | refine skv ?_ | (refine st_want rfl rfl ?_; refine sq qsub64 ?_)); (first | refine sk ?_ | refine skv ?_ | (refine st_want rfl rfl ?_; refine sq (by first | exact dleqt | exact dleqf) ?_)); (first | refine sk ?_ | refine skv ?_ | (refine st_want rfl rfl ?_; refine sq (by first | exact qpt | exact qpf) ?_)); refine sq (by first | exact qpt | exact qpf) ?_; refine sq qa ?_; refine l_nil ?_) | (refine c_region (id := 13) ?_; refine sq qm ?_; refine sq qnt ?_; refine l_nil ?_) | refine n_then ?_ | refine c_block ?_ | refine c_skip ?_ | refine n_block ?_ | refine c_exit ?_ | refine n_then_exit ?_ | refine n_block_eq ?_ | refine n_block_ne rfl ?_ | refine c_ret ?_ | refine n_then_ret ?_ | refine n_block_ret ?_ | refine c_cond_t rfl ?_ | refine c_cond_f rfl ?_ | refine r_succ ?_ )
                refine c_round (γ := Nat) (j + 1) (by omega) (by omega) ⟨by rfl, rfl, rfl, rfl, rfl, rfl, trivial⟩ (by rfl) (by rw [← hcs]; exact List.Sublist.refl _)
            · have hother : tornF r.w.2.2 r.n.2.2 (q) j = r.w.2.2 j := by
                unfold tornF
                by_cases h1 : (q) < 128
                · rw [if_pos h1, if_neg (by omega)]
                · rw [if_neg h1, if_pos (by omega)]
              have hcs := cF_set r.w.2.2 r.n.2.2 (q) j h64 hother
              by_cases h128 : (q) < 128
              · have hjk : ¬ (j : Int) < (q) := by omega
                repeat (first | refine c_seq ?_ | (refine c_region (id := 10) ?_; refine sq qm ?_; refine sq (by first | exact dlsst | exact dlssf) ?_; refine l_nil ?_) | (refine c_region (id := 11) ?_; refine sq qm ?_; refine sq (by exact Qt.cast (v' := .int .i64 ((j + 1 : Nat) : Int)) (congrArg (Value.int .i64) (by omega)) (q_add64 rfl rfl ⟨by omega, by omega⟩ rfl)) ?_; refine sq qa ?_; refine l_nil ?_) | (refine c_region (id := 12) ?_; refine sq qm ?_; refine sq (by first | exact dlsst | exact dlssf) ?_; refine sq qm ?_; (first | refine sk ?_ | refine skv ?_ | (refine st_want rfl rfl ?_; refine sq qm ?_)); (first | refine sk ?_ | refine skv ?_ | (refine st_want rfl rfl ?_; refine sq qm ?_)); (first | refine sk ?_ | refine skv ?_ | (refine st_want rfl rfl ?_; refine sq (by first | exact dlsst | exact dlssf) ?_)); refine sq (by first | exact qpt | exact qpf) ?_; refine sq qm ?_; (first | refine sk ?_ | refine skv ?_ | (refine st_want rfl rfl ?_; refine sq qm ?_)); (first | refine sk ?_ | refine skv ?_ | (refine st_want rfl rfl ?_; refine sq (by first | exact dgeqt | exact dgeqf) ?_)); (first | refine sk ?_ | refine skv ?_ | (refine st_want rfl rfl ?_; refine sq qm ?_)); (first | refine sk ?_ | refine skv ?_ | (refine st_want rfl rfl ?_; refine sq qm ?_)); (first | refine sk ?_ | refine skv ?_ | (refine st_want rfl rfl ?_; refine sq qsub64 ?_)); (first | refine sk ?_ | refine skv ?_ | (refine st_want rfl rfl ?_; refine sq qm ?_)); (first | refine sk ?_ | refine skv ?_ | (refine st_want rfl rfl ?_; refine sq qsub64 ?_)); (first | refine sk ?_ | refine skv ?_ | (refine st_want rfl rfl ?_; refine sq (by first | exact dleqt | exact dleqf) ?_)); (first | refine sk ?_ | refine skv ?_ | (refine st_want rfl rfl ?_; refine sq (by first | exact qpt | exact qpf) ?_)); refine sq (by first | exact qpt | exact qpf) ?_; refine sq qa ?_; refine l_nil ?_) | (refine c_region (id := 13) ?_; refine sq qm ?_; refine sq qnt ?_; refine l_nil ?_) | (refine x_region (id := 14) (some 19) [(0, .n), (1, .n), (2, .n), (3, .q), (4, .n), (5, .n), (6, .q), (7, .n), (8, .n), (9, .n), (10, .n), (11, .q), (12, .n), (13, .n), (14, .q), (15, .n), (16, .n), (17, .q), (18, .n), (19, .b)] _ mixed (by kernel_rfl) (List.Sublist.refl _) ?_; refine xn rfl qm ?_; refine xn rfl qn ?_; refine xn rfl qf ?_; refine xq rfl ql ?_; refine xn rfl qm ?_; refine xn rfl qis ?_; refine xq rfl (by exact ql (hr := Rd.sln (by (repeat (first | exact List.Mem.head _ | apply List.Mem.tail))) hgn2)) ?_; refine xn rfl qm ?_; refine xn rfl qm ?_; refine xn rfl qn ?_; refine xn rfl qf ?_; refine xq rfl ql ?_; refine xn rfl qm ?_; refine xn rfl qis ?_; refine xq rfl (by exact ql (hr := Rd.sln (by (repeat (first | exact List.Mem.head _ | apply List.Mem.tail))) hgw2)) ?_; refine xn rfl qm ?_; refine xn rfl qis ?_; refine xq rfl (by exact ql (hr := Rd.sln (by (repeat (first | exact List.Mem.head _ | apply List.Mem.tail))) hoj)) ?_; refine xn rfl qis ?_; refine x_b rfl ?_; refine es3 ?_ (hoff := by simp [secL_len]; omega) (hg := hrn); refine x_k (List.nil_sublist _) ?_; refine x_nil ?_) | refine n_then ?_ | refine c_block ?_ | refine c_skip ?_ | refine n_block ?_ | refine c_exit ?_ | refine n_then_exit ?_ | refine n_block_eq ?_ | refine n_block_ne rfl ?_ | refine c_ret ?_ | refine n_then_ret ?_ | refine n_block_ret ?_ | refine c_cond_t rfl ?_ | refine c_cond_f rfl ?_ | refine r_succ ?_ )
                refine c_round (γ := Nat) (j + 1) (by omega) (by omega) ⟨by rfl, rfl, rfl, rfl, rfl, rfl, trivial⟩ (by rfl) (by rw [hcs]; exact List.Sublist.refl _)
              · have hjk : ¬ 64 - (j : Int) ≤ (q) - 128 := by omega
                repeat (first | refine c_seq ?_ | (refine c_region (id := 10) ?_; refine sq qm ?_; refine sq (by first | exact dlsst | exact dlssf) ?_; refine l_nil ?_) | (refine c_region (id := 11) ?_; refine sq qm ?_; refine sq (by exact Qt.cast (v' := .int .i64 ((j + 1 : Nat) : Int)) (congrArg (Value.int .i64) (by omega)) (q_add64 rfl rfl ⟨by omega, by omega⟩ rfl)) ?_; refine sq qa ?_; refine l_nil ?_) | (refine c_region (id := 12) ?_; refine sq qm ?_; refine sq (by first | exact dlsst | exact dlssf) ?_; refine sq qm ?_; (first | refine sk ?_ | refine skv ?_ | (refine st_want rfl rfl ?_; refine sq qm ?_)); (first | refine sk ?_ | refine skv ?_ | (refine st_want rfl rfl ?_; refine sq qm ?_)); (first | refine sk ?_ | refine skv ?_ | (refine st_want rfl rfl ?_; refine sq (by first | exact dlsst | exact dlssf) ?_)); refine sq (by first | exact qpt | exact qpf) ?_; refine sq qm ?_; (first | refine sk ?_ | refine skv ?_ | (refine st_want rfl rfl ?_; refine sq qm ?_)); (first | refine sk ?_ | refine skv ?_ | (refine st_want rfl rfl ?_; refine sq (by first | exact dgeqt | exact dgeqf) ?_)); (first | refine sk ?_ | refine skv ?_ | (refine st_want rfl rfl ?_; refine sq qm ?_)); (first | refine sk ?_ | refine skv ?_ | (refine st_want rfl rfl ?_; refine sq qm ?_)); (first | refine sk ?_ | refine skv ?_ | (refine st_want rfl rfl ?_; refine sq qsub64 ?_)); (first | refine sk ?_ | refine skv ?_ | (refine st_want rfl rfl ?_; refine sq qm ?_)); (first | refine sk ?_ | refine skv ?_ | (refine st_want rfl rfl ?_; refine sq qsub64 ?_)); (first | refine sk ?_ | refine skv ?_ | (refine st_want rfl rfl ?_; refine sq (by first | exact dleqt | exact dleqf) ?_)); (first | refine sk ?_ | refine skv ?_ | (refine st_want rfl rfl ?_; refine sq (by first | exact qpt | exact qpf) ?_)); refine sq (by first | exact qpt | exact qpf) ?_; refine sq qa ?_; refine l_nil ?_) | (refine c_region (id := 13) ?_; refine sq qm ?_; refine sq qnt ?_; refine l_nil ?_) | (refine x_region (id := 14) (some 19) [(0, .n), (1, .n), (2, .n), (3, .q), (4, .n), (5, .n), (6, .q), (7, .n), (8, .n), (9, .n), (10, .n), (11, .q), (12, .n), (13, .n), (14, .q), (15, .n), (16, .n), (17, .q), (18, .n), (19, .b)] _ mixed (by kernel_rfl) (List.Sublist.refl _) ?_; refine xn rfl qm ?_; refine xn rfl qn ?_; refine xn rfl qf ?_; refine xq rfl ql ?_; refine xn rfl qm ?_; refine xn rfl qis ?_; refine xq rfl (by exact ql (hr := Rd.sln (by (repeat (first | exact List.Mem.head _ | apply List.Mem.tail))) hgn2)) ?_; refine xn rfl qm ?_; refine xn rfl qm ?_; refine xn rfl qn ?_; refine xn rfl qf ?_; refine xq rfl ql ?_; refine xn rfl qm ?_; refine xn rfl qis ?_; refine xq rfl (by exact ql (hr := Rd.sln (by (repeat (first | exact List.Mem.head _ | apply List.Mem.tail))) hgw2)) ?_; refine xn rfl qm ?_; refine xn rfl qis ?_; refine xq rfl (by exact ql (hr := Rd.sln (by (repeat (first | exact List.Mem.head _ | apply List.Mem.tail))) hoj)) ?_; refine xn rfl qis ?_; refine x_b rfl ?_; refine es3 ?_ (hoff := by simp [secL_len]; omega) (hg := hrn); refine x_k (List.nil_sublist _) ?_; refine x_nil ?_) | refine n_then ?_ | refine c_block ?_ | refine c_skip ?_ | refine n_block ?_ | refine c_exit ?_ | refine n_then_exit ?_ | refine n_block_eq ?_ | refine n_block_ne rfl ?_ | refine c_ret ?_ | refine n_then_ret ?_ | refine n_block_ret ?_ | refine c_cond_t rfl ?_ | refine c_cond_f rfl ?_ | refine r_succ ?_ )
                refine c_round (γ := Nat) (j + 1) (by omega) (by omega) ⟨by rfl, rfl, rfl, rfl, rfl, rfl, trivial⟩ (by rfl) (by rw [hcs]; exact List.Sublist.refl _)
          · obtain rfl : j = 64 := by omega
            rw [cF_end]
            repeat (first | refine c_seq ?_ | (refine c_region (id := 3) ?_; refine sq qm ?_; refine sq (by exact Qt.cast (v' := .int .i64 ((P.length + 1 : Nat) : Int)) (congrArg (Value.int .i64) (by omega)) (q_add64 rfl rfl ⟨by omega, by omega⟩ rfl)) ?_; refine sq qa ?_; refine l_nil ?_) | (refine c_region (id := 10) ?_; refine sq qm ?_; refine sq (by first | exact dlsst | exact dlssf) ?_; refine l_nil ?_) | (refine x_region (id := 15) (some 15) [(0, .n), (1, .n), (2, .n), (3, .q), (4, .n), (6, .n), (7, .n), (8, .n), (9, .q), (10, .n), (11, .n), (12, .q), (5, .e), (13, .e), (14, .n), (15, .b)] _ mixed (by kernel_rfl) (List.Sublist.refl _) ?_; refine xn rfl qm ?_; refine xn rfl qn ?_; refine xn rfl qf ?_; refine xq rfl ql ?_; refine xn rfl qm ?_; refine xn rfl qm ?_; refine xn rfl qn ?_; refine xn rfl qf ?_; refine xq rfl ql ?_; refine xn rfl qm ?_; refine xn rfl qis ?_; refine xq rfl (by exact ql (hr := Rd.sln (by (repeat (first | exact List.Mem.head _ | apply List.Mem.tail))) hgn2)) ?_; refine x_e rfl ?_; refine e_buildSlice0 rfl ?_; refine xk ?_; refine x_e rfl ?_; refine e_appE (Value.int .u8) ([] : List Int) (secL (tornF r.w.2.2 r.n.2.2 (q)) 64) rfl rfl rfl (by (repeat (first | exact Rm.here | apply Rm.there))) (Vw.own (.inr ⟨_, rfl⟩) (by (repeat (first | exact List.Mem.head _ | apply List.Mem.tail)))) rfl (secL_len _ _) ⟨Nat.le_refl _, by omega, .inr ⟨_, rfl⟩, fun g9 hg9 => .inr (by simp [Chunk.foot] at hg9; omega)⟩ (allOne_u8c _) (by omega) (by omega) ?_; intro b9 cap9 m9 ho9 hm9; refine xk ?_; refine xn rfl qis ?_; refine x_b rfl ?_; refine es3 ?_ (hoff := by simp) (hg := .inl hmv); refine x_k (List.nil_sublist _) ?_; refine x_nil ?_) | (refine c_region (id := 16) ?_; refine sq qm ?_; refine sq qn ?_; refine sq qf ?_; refine sq ql ?_; refine sq qm ?_; refine sq qis ?_; refine se ?_; refine es3 ?_ (hoff := by simp) (hg := .inl hmi); refine l_nil ?_) | refine n_then ?_ | refine c_block ?_ | refine c_skip ?_ | refine n_block ?_ | refine c_exit ?_ | refine n_then_exit ?_ | refine n_block_eq ?_ | refine n_block_ne rfl ?_ | refine c_ret ?_ | refine n_then_ret ?_ | refine n_block_ret ?_ | refine c_cond_t rfl ?_ | refine c_cond_f rfl ?_ | refine r_succ ?_ )
            rw [Nat.zero_add] at ho9 ⊢
            obtain ⟨gz, rfl⟩ := ho9.some (by omega)
            have hgz : gz ∈ X ∨ w.heap.size ≤ gz := ho9.new gz (by simp [Chunk.foot])
            rw [set_w P r ⟨(r.n.1, r.n.2.1, (tornF r.w.2.2 r.n.2.2 (q))), (gz, cap9, (tornF r.w.2.2 r.n.2.2 (q))), false⟩ Q, set_is P r ⟨(r.n.1, r.n.2.1, (tornF r.w.2.2 r.n.2.2 (q))), (gz, cap9, (tornF r.w.2.2 r.n.2.2 (q))), false⟩ Q]
            refine fgsT (A := [.blk g (.cells #[.slice (some ⟨gn, 0, none⟩) (P ++ r :: Q).length cn, .slice (some ⟨gv, 0, none⟩) (P ++ r :: Q).length cw, .slice (some ⟨gi, 0, none⟩) (P ++ r :: Q).length ci, .int .i64 fz, .bool go] 81 (0, 0)), .sl (some ⟨gn, 0, none⟩) cn 33 1 (((P ++ r :: Q).map Row.n).map encS), .sl (some ⟨gv, 0, none⟩) cw 33 1 (((P ++ ⟨(r.n.1, r.n.2.1, (tornF r.w.2.2 r.n.2.2 (q))), (gz, cap9, (tornF r.w.2.2 r.n.2.2 (q))), false⟩ :: Q).map Row.w).map encS), .sl (some ⟨gi, 0, none⟩) ci 4 1 (((P ++ ⟨(r.n.1, r.n.2.1, (tornF r.w.2.2 r.n.2.2 (q))), (gz, cap9, (tornF r.w.2.2 r.n.2.2 (q))), false⟩ :: Q).map Row.is).map Value.bool), chS (r.n.1, r.n.2.1, (tornF r.w.2.2 r.n.2.2 (q))), chS (gz, cap9, (tornF r.w.2.2 r.n.2.2 (q)))]) (T := rowsC P ++ rowsC Q) (by repeat (first | exact Sp.nil | (apply Sp.cons; focus (repeat (first | exact Rm.here | apply Rm.there))))) (by (repeat (first | exact List.nil_sublist _ | exact List.Sublist.slnil | apply List.Sublist.cons_cons | exact List.Sublist.refl _ | apply List.Sublist.cons))) ?_
            refine chg (L' := [.blk g (.cells #[.slice (some ⟨gn, 0, none⟩) (P ++ ⟨(r.n.1, r.n.2.1, (tornF r.w.2.2 r.n.2.2 (q))), (gz, cap9, (tornF r.w.2.2 r.n.2.2 (q))), false⟩ :: Q).length cn, .slice (some ⟨gv, 0, none⟩) (P ++ ⟨(r.n.1, r.n.2.1, (tornF r.w.2.2 r.n.2.2 (q))), (gz, cap9, (tornF r.w.2.2 r.n.2.2 (q))), false⟩ :: Q).length cw, .slice (some ⟨gi, 0, none⟩) (P ++ ⟨(r.n.1, r.n.2.1, (tornF r.w.2.2 r.n.2.2 (q))), (gz, cap9, (tornF r.w.2.2 r.n.2.2 (q))), false⟩ :: Q).length ci, .int .i64 fz, .bool go] 81 (0, 0)), .sl (some ⟨gn, 0, none⟩) cn 33 1 (((P ++ ⟨(r.n.1, r.n.2.1, (tornF r.w.2.2 r.n.2.2 (q))), (gz, cap9, (tornF r.w.2.2 r.n.2.2 (q))), false⟩ :: Q).map Row.n).map encS), .sl (some ⟨gv, 0, none⟩) cw 33 1 (((P ++ ⟨(r.n.1, r.n.2.1, (tornF r.w.2.2 r.n.2.2 (q))), (gz, cap9, (tornF r.w.2.2 r.n.2.2 (q))), false⟩ :: Q).map Row.w).map encS), .sl (some ⟨gi, 0, none⟩) ci 4 1 (((P ++ ⟨(r.n.1, r.n.2.1, (tornF r.w.2.2 r.n.2.2 (q))), (gz, cap9, (tornF r.w.2.2 r.n.2.2 (q))), false⟩ :: Q).map Row.is).map Value.bool), chS (r.n.1, r.n.2.1, (tornF r.w.2.2 r.n.2.2 (q))), chS (gz, cap9, (tornF r.w.2.2 r.n.2.2 (q)))] ++ (rowsC P ++ rowsC Q)) (by simp [List.map_append, List.length_append]) ?_
            refine prm (RL_open ⟨g, some ⟨gn, 0, none⟩, cn, some ⟨gv, 0, none⟩, cw, some ⟨gi, 0, none⟩, ci⟩ P ⟨(r.n.1, r.n.2.1, (tornF r.w.2.2 r.n.2.2 (q))), (gz, cap9, (tornF r.w.2.2 r.n.2.2 (q))), false⟩ Q fz go).symm ?_
            have hfr2 := fr_open ⟨g, some ⟨gn, 0, none⟩, cn, some ⟨gv, 0, none⟩, cw, some ⟨gi, 0, none⟩, ci⟩ P r Q fz go X w.heap.size (.inl hmg) hfr ⟨(r.n.1, r.n.2.1, (tornF r.w.2.2 r.n.2.2 (q))), (gz, cap9, (tornF r.w.2.2 r.n.2.2 (q))), false⟩ hrn hgz fz go
            refine c_round (P ++ [⟨(r.n.1, r.n.2.1, (tornF r.w.2.2 r.n.2.2 (q))), (gz, cap9, (tornF r.w.2.2 r.n.2.2 (q))), false⟩], Q, t + 1, m9) ⟨?_, ?_, ?_, by dsimp only; rw [List.append_assoc]; exact hfr2, by dsimp only; omega, ?_⟩ (by dsimp only; simp) ⟨by simp; rfl, rfl, rfl, rfl, trivial⟩ (by rfl) (by dsimp only; rw [List.append_assoc]; exact List.Sublist.refl _)
            · dsimp only
              rw [← hr0]
              simp only [List.map_append, List.map_cons, List.map_nil, rcN, hri, if_true, hf0, List.append_assoc, List.cons_append, List.nil_append]
            · intro r9 hr9
              rcases List.mem_append.1 hr9 with hr9 | hr9
              · exact hs2 r9 hr9
              · simp at hr9
                subst hr9
                exact ⟨rfl, rfl⟩
            · exact fun r9 hr9 => hJ r9 (List.mem_cons_of_mem _ hr9)
            · dsimp only
              simp at hln ⊢
              omega
end Go.Proofs.Yteopejjlhmghbaa
namespace Go.Proofs.Yteopejjlhmghbaa
open Go Go.RowKit
set_option linter.unusedVariables false
set_option linter.unusedSimpArgs false
structure JJ (n : Nat) (D : Dk) (R : Rk) : Prop where
  ok : D.OK n
  c : R.rows.map (fun r => r.n.2.2) = D.secs
  l : ∀ (i : Nat) (r : Row), R.rows[i]? = some r → mFind D.M (i : Int) = (if r.is then some r.w.2.2 else none)
  w : ∀ r ∈ R.rows, r.is = false → r.w.2.2 = r.n.2.2
  fu : R.fuse = if D.fused then D.fuse else -1
  go : R.gone = D.gone
  lo : D.M.length = isN R.rows
theorem JJ.len {n : Nat} {D : Dk} {R : Rk} (h : JJ n D R) : R.rows.length = n := by
  have h1 := congrArg List.length h.c
  rw [List.length_map, h.ok.len] at h1
  exact h1
theorem JJ.pg {n : Nat} {D : Dk} {R : Rk} (h : JJ n D R) : R.rgone = D.pgone := by
  unfold Rk.rgone Dk.pgone
  rw [h.go, h.fu]
  cases D.fused with
  | true => simp
  | false => simp
theorem JJ.fb {n : Nat} {D : Dk} {R : Rk} (h : JJ n D R) : -1 ≤ R.fuse ∧ R.fuse ≤ 9223372036854775807 := by
  have h1 := h.ok.hf
  rw [h.fu]
  split <;> omega
theorem JJ.dead {n : Nat} {D : Dk} {R : Rk} (h : JJ n D R) : JJ n D.dead R.dead := ⟨h.ok.dead, h.c, h.l, h.w, h.fu, rfl, h.lo⟩
theorem isN_mid (P : List Row) (r : Row) (Q : List Row) : isN (P ++ r :: Q) = isN P + (if r.is then 1 else 0) + isN Q := by
  unfold isN
  rw [List.filter_append, List.length_append]
  cases h : r.is <;> simp [h] <;> omega
theorem mFind_app (M : List (ME (Nat → Int))) (i : Int) (f : Nat → Int) (c : Nat) (j : Int) (h : mFind M i = none) : mFind (M ++ [(i, f, c)]) j = if j = i then some f else mFind M j := by
  unfold mFind at h ⊢
  rw [List.find?_append]
  by_cases e : j = i
  · subst e
    rw [if_pos rfl]
    rw [Option.map_eq_none_iff] at h
    rw [h]
    simp
  · rw [if_neg e]
    have h9 : ([(i, f, c)] : List (ME (Nat → Int))).find? (fun e9 => e9.1 == j) = none := by simp; exact fun h8 => e h8.symm
    rw [h9, Option.or_none]
theorem fuse_lit {n : Nat} {D : Dk} {R : Rk} (h : JJ n D R) (hp : D.pgone = false) : R.lit.fuse = if D.fused then D.lit.fuse else -1 := by
  have h1 := h.ok.hf
  unfold Dk.pgone at hp
  unfold Rk.lit Dk.lit
  dsimp only
  rw [h.fu]
  cases hfu : D.fused with
  | false => simp
  | true =>
    simp [hfu] at hp ⊢
    omega
theorem gone_lit {D : Dk} (hp : D.pgone = false) : D.gone = false := by
  unfold Dk.pgone at hp
  cases h : D.gone with
  | false => rfl
  | true => rw [h] at hp; cases hp
theorem JJ.write {n : Nat} {D : Dk} {P : List Row} {r : Row} {Q : List Row} {fz : Int} {go : Bool} (h : JJ n D ⟨P ++ r :: Q, fz, go⟩) (hp : D.pgone = false) (f : Nat → Int) (g c : Nat) : JJ n (D.lit.put P.length f) ⟨P ++ ⟨(g, c, f), r.w, true⟩ :: Q, (Rk.lit ⟨P ++ r :: Q, fz, go⟩).fuse, go⟩ := by
  have hlen : P.length + (Q.length + 1) = n := by have := h.len; simpa using this
  have hr := h.l P.length r (by simp)
  have hsec : D.secs = P.map (fun r => r.n.2.2) ++ r.n.2.2 :: Q.map (fun r => r.n.2.2) := by rw [← h.c]; simp
  have hset : D.secs.set P.length f = (P ++ (⟨(g, c, f), r.w, true⟩ : Row) :: Q).map (fun r => r.n.2.2) := by
    rw [hsec]
    have : P.length = (P.map (fun r : Row => r.n.2.2)).length := by simp
    rw [List.set_append_right _ _ (by simp)]
    simp
  have hget : (D.secs[P.length]?).getD (fun _ => 0) = r.n.2.2 := by rw [hsec]; simp
  have hfu := fuse_lit h hp
  have hgo : go = false := by rw [← gone_lit hp]; exact h.go
  have hw := h.w r (by simp)
  refine ⟨(h.ok.lit hp).put _ (by omega) f, ?_, ?_, ?_, ?_, ?_, ?_⟩
  · dsimp only
    rw [← hset]
    unfold Dk.put
    split <;> rfl
  · intro i r9 h9
    dsimp only at h9
    have hcase : i = P.length ∧ r9 = ⟨(g, c, f), r.w, true⟩ ∨ i ≠ P.length ∧ (P ++ r :: Q)[i]? = some r9 := by
      rcases Nat.lt_trichotomy i P.length with hi | hi | hi
      · exact .inr ⟨by omega, by rw [List.getElem?_append_left hi] at h9 ⊢; exact h9⟩
      · subst hi; simp at h9; exact .inl ⟨rfl, h9.symm⟩
      · refine .inr ⟨by omega, ?_⟩
        rw [List.getElem?_append_right (by omega)] at h9 ⊢
        obtain ⟨q, hq⟩ : ∃ q, i - P.length = q + 1 := ⟨i - P.length - 1, by omega⟩
        rw [hq] at h9 ⊢
        simpa using h9
    unfold Dk.put
    cases hm : mFind D.lit.M (P.length : Int) with
    | none =>
      have hm' : mFind D.M (P.length : Int) = none := hm
      dsimp only
      rw [mFind_app _ _ _ _ _ hm]
      rcases hcase with ⟨rfl, rfl⟩ | ⟨hne, h8⟩
      · rw [if_pos rfl, if_pos rfl]
        have hris : r.is = false := by
          cases hri : r.is with
          | false => rfl
          | true => rw [hri, hm'] at hr; cases hr
        show some ((D.secs[P.length]?).getD (fun _ => 0)) = _
        rw [hget, hw hris]
      · rw [if_neg (by omega)]
        exact h.l i r9 h8
    | some s9 =>
      have hm' : mFind D.M (P.length : Int) = some s9 := hm
      dsimp only
      rcases hcase with ⟨rfl, rfl⟩ | ⟨hne, h8⟩
      · rw [if_pos rfl]
        have hris : r.is = true := by
          cases hri : r.is with
          | true => rfl
          | false => rw [hri, hm'] at hr; cases hr
        rw [hris, if_pos rfl] at hr
        exact hr
      · exact h.l i r9 h8
  · intro r9 hr9 h8
    dsimp only at hr9
    rcases List.mem_append.1 hr9 with h7 | h7
    · exact h.w r9 (by simp [h7]) h8
    · rcases List.mem_cons.1 h7 with rfl | h7
      · cases h8
      · exact h.w r9 (by simp [h7]) h8
  · dsimp only
    rw [put_fused, put_fuse]
    exact hfu
  · dsimp only
    rw [hgo, Dk.put_gone]
  · dsimp only
    have hlo := h.lo
    rw [isN_mid] at hlo ⊢
    unfold Dk.put
    cases hm : mFind D.lit.M (P.length : Int) with
    | none =>
      have hm' : mFind D.M (P.length : Int) = none := hm
      have hris : r.is = false := by
        cases hri : r.is with
        | false => rfl
        | true => rw [hri, hm'] at hr; cases hr
      rw [hris] at hlo
      simp [Dk.lit]
      simp at hlo
      omega
    | some s9 =>
      have hm' : mFind D.M (P.length : Int) = some s9 := hm
      have hris : r.is = true := by
        cases hri : r.is with
        | true => rfl
        | false => rw [hri, hm'] at hr; cases hr
      rw [hris] at hlo
      exact hlo
theorem isN_zero (rows : List Row) (h : ∀ r ∈ rows, r.is = false) : isN rows = 0 := by
  unfold isN
  rw [List.length_eq_zero_iff, List.filter_eq_nil_iff]
  intro r hr
  rw [h r hr]
  simp
theorem JJ.sync {n : Nat} {D : Dk} {rows : List Row} {fz : Int} {go : Bool} (h : JJ n D ⟨rows, fz, go⟩) (hp : D.pgone = false) (z : List Row) (hz : Synced rows z) : JJ n D.lit.still ⟨z, (Rk.lit ⟨rows, fz, go⟩).fuse, go⟩ := by
  have hgo : go = false := by rw [← gone_lit hp]; exact h.go
  refine ⟨(h.ok.lit hp).still, ?_, ?_, fun r hr _ => (hz.2 r hr).1, fuse_lit h hp, hgo, ?_⟩
  · have h1 := congrArg (List.map (fun s : SecR => s.2.2)) hz.1
    rw [List.map_map, List.map_map] at h1
    exact h1.trans h.c
  · intro i r hr
    rw [(hz.2 r (List.mem_of_getElem? hr)).2]
    rfl
  · show 0 = _
    exact (isN_zero _ (fun r hr => (hz.2 r hr).2)).symm
end Go.Proofs.Yteopejjlhmghbaa
namespace Go.Proofs.Yteopejjlhmghbaa
open Go Go.RowKit
set_option linter.unusedVariables false
set_option linter.unusedSimpArgs false
def idxL : Nat → List Row → List Int
  | _, [] => []
  | k, r :: rs => if r.is then (k : Int) :: idxL (k + 1) rs else idxL (k + 1) rs
theorem mem_idx : ∀ (rows : List Row) (k : Nat) (i : Int), i ∈ idxL k rows ↔ ∃ (j : Nat) (r : Row), rows[j]? = some r ∧ r.is = true ∧ i = ((k + j : Nat) : Int)
  | [], k, i => by simp [idxL]
  | r :: rs, k, i => by
    have ih := mem_idx rs (k + 1) i
    have hsplit : (∃ (j : Nat) (r9 : Row), (r :: rs)[j]? = some r9 ∧ r9.is = true ∧ i = ((k + j : Nat) : Int)) ↔ (r.is = true ∧ i = (k : Int)) ∨ ∃ (j : Nat) (r9 : Row), rs[j]? = some r9 ∧ r9.is = true ∧ i = ((k + 1 + j : Nat) : Int) := by
      constructor
      · rintro ⟨j, r9, h1, h2, h3⟩
        cases j with
        | zero => simp at h1; subst h1; exact .inl ⟨h2, h3⟩
        | succ j => exact .inr ⟨j, r9, by simpa using h1, h2, by rw [h3]; congr 1; omega⟩
      · rintro (⟨h1, h2⟩ | ⟨j, r9, h1, h2, h3⟩)
        · exact ⟨0, r, rfl, h1, h2⟩
        · exact ⟨j + 1, r9, by simpa using h1, h2, by rw [h3]; congr 1; omega⟩
    rw [hsplit, ← ih, idxL]
    cases h : r.is <;> simp
theorem idx_ge : ∀ (rows : List Row) (k : Nat), ∀ i ∈ idxL k rows, (k : Int) ≤ i := by
  intro rows k i hi
  obtain ⟨j, r, _, _, h⟩ := (mem_idx rows k i).1 hi
  omega
theorem idx_sorted : ∀ (rows : List Row) (k : Nat), (idxL k rows).Pairwise (fun x y => x < y)
  | [], k => by simp [idxL]
  | r :: rs, k => by
    rw [idxL]
    cases r.is with
    | false => exact idx_sorted rs (k + 1)
    | true =>
      refine List.pairwise_cons.2 ⟨fun i hi => ?_, idx_sorted rs (k + 1)⟩
      have := idx_ge rs (k + 1) i hi
      omega
theorem mFind_some {M : List (ME (Nat → Int))} {i : Int} {f : Nat → Int} (h : mFind M i = some f) : i ∈ M.map (·.1) := by
  unfold mFind at h
  rw [Option.map_eq_some_iff] at h
  obtain ⟨e, he, _⟩ := h
  have h1 := List.find?_some he
  have h2 := List.mem_of_find?_eq_some he
  exact List.mem_map.2 ⟨e, h2, by simpa using h1⟩
theorem keys_idx {n : Nat} {D : Dk} {R : Rk} (h : JJ n D R) : keysOf D.M = idxL 0 R.rows := by
  have tr : ∀ x y z : Int, decide (x ≤ y) = true → decide (y ≤ z) = true → decide (x ≤ z) = true := by intro x y z; simp; omega
  have to : ∀ x y : Int, (decide (x ≤ y) || decide (y ≤ x)) = true := by intro x y; simp; omega
  have hn : (idxL 0 R.rows).Nodup := (idx_sorted R.rows 0).imp (fun h => by omega)
  have hp : (D.M.map (·.1)).Perm (idxL 0 R.rows) := by
    rw [List.perm_ext_iff_of_nodup h.ok.ks hn]
    intro i
    rw [mem_idx]
    constructor
    · intro hi
      obtain ⟨e, he, hei⟩ := List.mem_map.1 hi
      have hb := h.ok.bd e he
      rw [hei] at hb
      obtain ⟨j, rfl⟩ : ∃ j : Nat, i = (j : Int) := ⟨i.toNat, by omega⟩
      obtain ⟨r, hr⟩ : ∃ r, R.rows[j]? = some r := ⟨_, List.getElem?_eq_getElem (by rw [h.len]; omega)⟩
      obtain ⟨f, hf⟩ := mFind_mem he hei
      have hl := h.l j r hr
      rw [hf] at hl
      refine ⟨j, r, hr, ?_, by simp⟩
      cases hri : r.is with
      | true => rfl
      | false => rw [hri] at hl; simp at hl
    · rintro ⟨j, r, hr, hri, rfl⟩
      have hl := h.l j r hr
      rw [hri, if_pos rfl] at hl
      rw [Nat.zero_add]
      exact mFind_some hl
  refine List.Perm.eq_of_pairwise (le := fun x y : Int => x ≤ y) ?_ ?_ ?_ ((List.mergeSort_perm _ _).trans hp)
  · intro x y _ _ h1 h2; omega
  · exact (List.pairwise_mergeSort tr to _).imp (fun h => by simpa using h)
  · exact (idx_sorted R.rows 0).imp (fun h => by omega)
theorem crash_rows (M : List (ME (Nat → Int))) (fate : List Int) : ∀ (Q : List Row) (t : Nat) (A : List (Nat → Int)), (∀ (j : Nat) (r : Row), Q[j]? = some r → r.is = true → mFind M ((A.length + j : Nat) : Int) = some r.w.2.2) → crashK M fate t (idxL A.length Q) (A ++ Q.map (fun r => r.n.2.2)) = A ++ rcN fate t Q
  | [], t, A, _ => by simp [idxL, crashK, rcN]
  | r :: Q, t, A, h => by
    have ih := fun (t' : Nat) (v : Nat → Int) => crash_rows M fate Q t' (A ++ [v]) (fun j r9 h1 h2 => by
      have h3 := h (j + 1) r9 (by simpa using h1) h2
      rw [← h3]; congr 2; simp; omega)
    simp only [List.length_append, List.length_cons, List.length_nil, Nat.zero_add, List.append_assoc, List.cons_append, List.nil_append] at ih
    rw [idxL, rcN]
    cases hri : r.is with
    | false =>
      simp only [Bool.false_eq_true, if_false, List.map_cons]
      exact ih t r.n.2.2
    | true =>
      have hm := h 0 r (by simp) hri
      rw [Nat.add_zero] at hm
      simp only [if_true, List.map_cons, crashK, hm, Int.toNat_natCast, Option.getD_some]
      rw [List.getElem?_append_right (Nat.le_refl _), List.set_append_right _ _ (Nat.le_refl _)]
      simp only [Nat.sub_self, List.getElem?_cons_zero, Option.getD_some, List.set_cons_zero]
      exact ih (t + 1) _
theorem JJ.crash {n : Nat} {D : Dk} {rows : List Row} {fz : Int} {go : Bool} (h : JJ n D ⟨rows, fz, go⟩) (fate : List Int) (z : List Row) (h1 : z.map (fun r => r.n.2.2) = rcN fate 0 rows) (h2 : ∀ r ∈ z, r.w.2.2 = r.n.2.2 ∧ r.is = false) : JJ n (D.crash fate) ⟨z, -1, false⟩ := by
  refine ⟨h.ok.crash fate, ?_, ?_, fun r hr _ => (h2 r hr).1, rfl, rfl, ?_⟩
  · dsimp only
    rw [h1]
    simp only [Dk.crash]
    rw [keys_idx h, ← h.c]
    have h3 := crash_rows D.M fate rows 0 [] (fun j r hr hri => by
      have hl := h.l j r hr
      rw [hri, if_pos rfl] at hl
      simpa using hl)
    simpa using h3.symm
  · intro i r hr
    rw [(h2 r (List.mem_of_getElem? hr)).2]
    rfl
  · show 0 = _
    exact (isN_zero _ (fun r hr => (h2 r hr).2)).symm
def Dk.fus (D : Dk) (k : Int) : Dk := { D with fused := decide (0 ≤ k), fuse := max k 0 }
theorem JJ.fuse {n : Nat} {D : Dk} {R : Rk} (h : JJ n D R) (k : Int) (hk : k ≤ 9223372036854775807) : JJ n (D.fus k) { R with fuse := max k (-1) } := by
  refine ⟨⟨h.ok.len, h.ok.n9, h.ok.ks, h.ok.bd, h.ok.cl, h.ok.bs, h.ok.ml, ?_⟩, h.c, h.l, h.w, ?_, h.go, h.lo⟩
  · simp only [Dk.fus]; omega
  · have e1 : (D.fus k).fused = decide (0 ≤ k) := rfl
    have e2 : (D.fus k).fuse = max k 0 := rfl
    rw [e1, e2]
    show max k (-1) = _
    by_cases h0 : 0 ≤ k
    · have e3 : decide (0 ≤ k) = true := by simpa using h0
      rw [e3, if_pos rfl]; omega
    · have e3 : decide (0 ≤ k) = false := by simpa using h0
      rw [e3, if_neg (by simp)]; omega
theorem JJ.new (n k : Nat) (hn : n ≤ 16384) (z : List Row) (hl : z.length = n) (hz : ∀ r ∈ z, zeroRow k r) : JJ n (Dk.new n) ⟨z, -1, false⟩ := by
  have hc : ∀ r ∈ z, r.n.2.2 = (fun _ => 0) := fun r hr => funext (hz r hr).2.2.1
  have hi : ∀ r ∈ z, r.is = false := fun r hr => (hz r hr).2.2.2.2
  refine ⟨Dk.OK.new n hn, ?_, ?_, ?_, rfl, rfl, ?_⟩
  · dsimp only
    simp only [Dk.new]
    rw [List.eq_replicate_iff]
    refine ⟨by simpa using hl, fun f hf => ?_⟩
    obtain ⟨r, hr, rfl⟩ := List.mem_map.1 hf
    exact hc r hr
  · intro i r hr
    rw [hi r (List.mem_of_getElem? hr)]
    rfl
  · intro r hr _
    rw [hc r hr]
    exact funext (hz r hr).2.2.2.1
  · show 0 = _
    exact (isN_zero _ hi).symm
end Go.Proofs.Yteopejjlhmghbaa
namespace Go.Proofs.Yteopejjlhmghbaa
open Go Go.RowKit
set_option linter.unusedVariables false
set_option linter.unusedSimpArgs false
set_option maxRecDepth 100000 in
set_option maxHeartbeats 4000000 in
theorem same_c (n k0 : Nat) (gd gw gm : Nat) (D : Dk) (b : Rb) (R : Rk) (hJ : JJ n D R) (hn : n ≤ 16000) (hbk : RbOK k0 n b) (w : World) (hD : Has (DskL gd gw gm D ++ RL b R) w) :
    CA Try.prog 23 [.pointer (some ⟨gd, 0, none⟩), .pointer (some ⟨b.g, 0, none⟩)] w (RV (.bool true) w) := by
  have hlen := hJ.len
  have hok := hJ.ok
  have hlo := hJ.lo
  have hgo := hJ.go
  obtain ⟨rows, fz, go⟩ := R
  dsimp only at hlen hlo hgo
  subst hgo
  rw [← hlen] at hbk
  cases hg : D.gone with
  | true =>
    rw [hg] at hD hJ
    refine enter (L := DskL gd gw gm D ++ ([.blk b.g (.cells #[.slice b.bn rows.length b.cn, .slice b.bw rows.length b.cw, .slice b.bi rows.length b.ci, .int .i64 fz, .bool true] 81 (0, 0)), .sl b.bn b.cn 33 1 ((rows.map Row.n).map encS), .sl b.bw b.cw 33 1 ((rows.map Row.w).map encS), .sl b.bi b.ci 4 1 ((rows.map Row.is).map Value.bool)] ++ rowsC rows)) (X := []) Try.func23 rfl Try.ntmps23 rfl rfl hD ?_
    repeat (first | refine c_seq ?_ | (refine c_region (id := 0) ?_; refine sq qa ?_; refine l_nil ?_) | (refine x_region (id := 1) none [(0, .n), (2, .n), (3, .n), (4, .n), (5, .q), (6, .n), (1, .e), (7, .n), (8, .n), (9, .n), (11, .n), (10, .e), (12, .e), (13, .n), (14, .n), (15, .n), (16, .n), (18, .n), (19, .n), (20, .n), (21, .q), (17, .e), (22, .n), (23, .n)] _ mixed (by kernel_rfl) (List.Sublist.refl _) ?_; refine xn rfl qm ?_; refine xn rfl qm ?_; refine xn rfl qn ?_; refine xn rfl qf ?_; refine xq rfl ql ?_; refine xn rfl qls ?_; refine x_e rfl ?_; refine ecp rfl rfl (fun w hC hm hL => by have h9 := sect_c gd gw gm D w (hL.sub (List.sublist_append_left _ _)); rw [hok.len] at h9; exact h9) ?_; intro m' hm'; refine xk ?_; refine xn rfl (by first | exact dneqt | exact dneqf) ?_; refine xn rfl qm ?_; (first | refine x_nskip rfl rfl rfl rfl ?_ | refine x_nskipv rfl rfl (by rfl) rfl ?_ | refine x_ng rfl rfl rfl (by exact qm) rfl ?_); (first | refine x_nskip rfl rfl rfl rfl ?_ | refine x_nskipv rfl rfl (by rfl) rfl ?_ | refine x_ng rfl rfl rfl (by exact qm) rfl ?_); (first | refine x_eskip (List.Sublist.refl _) rfl rfl rfl rfl ?_ | refine x_eskipv (List.Sublist.refl _) rfl rfl (by rfl) rfl ?_ | (refine x_eg rfl rfl rfl ?_; refine ecp rfl rfl (fun w hC hm hL => by exact loose_c gd gw gm D w (hL.sub (List.sublist_append_left _ _))) ?_; intro m' hm'; refine xk ?_)); (first | refine x_eskip (List.Sublist.refl _) rfl rfl rfl rfl ?_ | refine x_eskipv (List.Sublist.refl _) rfl rfl (by rfl) rfl ?_ | (refine x_eg rfl rfl rfl ?_; refine ecp rfl rfl (fun w hC hm hL => by have h9 := rloose_c b ⟨rows, fz, true⟩ k0 hbk (by dsimp only; omega) w (hL.sub (List.sublist_append_right _ _)); dsimp only at h9; exact h9) ?_; intro m' hm'; refine xk ?_)); (first | refine x_nskip rfl rfl rfl rfl ?_ | refine x_nskipv rfl rfl (by rfl) rfl ?_ | refine x_ng rfl rfl rfl (by first | exact dneqt | exact dneqf) rfl ?_); refine xn rfl (by first | exact qpt | exact qpf) ?_; refine xn rfl qm ?_; (first | refine x_nskip rfl rfl rfl rfl ?_ | refine x_nskipv rfl rfl (by rfl) rfl ?_ | refine x_ng rfl rfl rfl (by exact qm) rfl ?_); (first | refine x_nskip rfl rfl rfl rfl ?_ | refine x_nskipv rfl rfl (by rfl) rfl ?_ | refine x_ng rfl rfl rfl (by exact qm) rfl ?_); (first | refine x_nskip rfl rfl rfl rfl ?_ | refine x_nskipv rfl rfl (by rfl) rfl ?_ | refine x_ng rfl rfl rfl (by exact qn) rfl ?_); (first | refine x_nskip rfl rfl rfl rfl ?_ | refine x_nskipv rfl rfl (by rfl) rfl ?_ | refine x_ng rfl rfl rfl (by exact qf) rfl ?_); (first | refine x_skip rfl rfl rfl rfl ?_ | refine x_skipv rfl rfl (by rfl) rfl ?_ | refine x_qg rfl rfl rfl (by exact ql) rfl ?_); (first | refine x_eskip (List.Sublist.refl _) rfl rfl rfl rfl ?_ | refine x_eskipv (List.Sublist.refl _) rfl rfl (by rfl) rfl ?_ | (refine x_eg rfl rfl rfl ?_; refine ecp rfl rfl (fun w hC hm hL => by have h9 := gone_c gd gw gm D w (hL.sub (List.sublist_append_left _ _)); rw [hg] at h9; exact h9) ?_; intro m' hm'; refine xk ?_)); (first | refine x_nskip rfl rfl rfl rfl ?_ | refine x_nskipv rfl rfl (by rfl) rfl ?_ | refine x_ng rfl rfl rfl (by exact qneqb) rfl ?_); refine xn rfl (by first | exact qpt | exact qpf) ?_; refine x_nil ?_) | (refine c_region (id := 3) ?_; refine sq qa ?_; refine l_nil ?_) | refine n_then ?_ | refine c_block ?_ | refine c_skip ?_ | refine n_block ?_ | refine c_exit ?_ | refine n_then_exit ?_ | refine n_block_eq ?_ | refine n_block_ne rfl ?_ | refine c_ret ?_ | refine n_then_ret ?_ | refine n_block_ret ?_ | refine c_cond_t rfl ?_ | refine c_cond_f rfl ?_ | refine r_succ ?_ )
    refine c_loop (γ := Nat × Nat) (fun z => [(5, .int .i64 ((z.1 : Int) - 1)), (4, .bool false), (0, .pointer (some ⟨gd, 0, none⟩)), (1, .pointer (some ⟨b.g, 0, none⟩))]) (fun z => z.2) (fun _ => DskL gd gw gm D ++ ([.blk b.g (.cells #[.slice b.bn rows.length b.cn, .slice b.bw rows.length b.cw, .slice b.bi rows.length b.ci, .int .i64 fz, .bool true] 81 (0, 0)), .sl b.bn b.cn 33 1 ((rows.map Row.n).map encS), .sl b.bw b.cw 33 1 ((rows.map Row.w).map encS), .sl b.bi b.ci 4 1 ((rows.map Row.is).map Value.bool)] ++ rowsC rows)) (fun z => z.1 ≤ n + 2 ∧ w.heap.size ≤ z.2) (fun z => n + 2 - z.1) (0, m') ⟨by simp, by dsimp only; omega⟩ ⟨rfl, rfl, rfl, rfl, trivial⟩ rfl (List.Sublist.refl _) ?_
    rintro ⟨j, mm⟩ ⟨hj, hmm⟩
    dsimp only at hj hmm ⊢
    by_cases hje : j ≤ n + 1
    · by_cases hj0 : j = 0 ∨ j = n + 1
      · by_cases hj1 : j = 0
        · repeat (first | refine c_seq ?_ | (refine c_region (id := 4) ?_; refine sq qm ?_; refine sq qm ?_; refine sq qn ?_; refine sq qf ?_; refine sq ql ?_; refine sq qls ?_; refine sq (by first | exact dleqt | exact dleqf) ?_; refine l_nil ?_) | (refine c_region (id := 5) ?_; refine sq qm ?_; refine sq (by exact Qt.cast (v' := .int .i64 (((j + 1 : Nat) : Int) - 1)) (congrArg (Value.int .i64) (by omega)) (q_add64 rfl rfl ⟨by omega, by omega⟩ rfl)) ?_; refine sq qa ?_; refine l_nil ?_) | (refine c_region (id := 6) ?_; refine sq qm ?_; refine sq qm ?_; refine se ?_; refine ecp rfl rfl (fun w hC hm hL => by exact rd_bad gd gw gm D ((j : Int) - 1) (by rw [hok.len]; omega) w (hL.sub (List.sublist_append_left _ _))) ?_; intro m' hm'; refine sq qm ?_; refine sq qe ?_; refine sq qe ?_; refine sq qa ?_; refine sq qa ?_; refine l_nil ?_) | (refine c_region (id := 7) ?_; refine sq qm ?_; refine sq (by first | exact dlsst | exact dlssf) ?_; refine sq qm ?_; (first | refine sk ?_ | refine skv ?_ | (refine st_want rfl rfl ?_; refine sq qm ?_)); (first | refine sk ?_ | refine skv ?_ | (refine st_want rfl rfl ?_; refine sq qm ?_)); (first | refine sk ?_ | refine skv ?_ | (refine st_want rfl rfl ?_; refine sq qn ?_)); (first | refine sk ?_ | refine skv ?_ | (refine st_want rfl rfl ?_; refine sq qf ?_)); (first | refine sk ?_ | refine skv ?_ | (refine st_want rfl rfl ?_; refine sq ql ?_)); (first | refine sk ?_ | refine skv ?_ | (refine st_want rfl rfl ?_; refine sq qls ?_)); (first | refine sk ?_ | refine skv ?_ | (refine st_want rfl rfl ?_; refine sq (by first | exact deqlt | exact deqlf) ?_)); refine sq (by first | exact qpt | exact qpf) ?_; refine l_nil ?_) | (refine c_region (id := 8) ?_; refine sq qm ?_; refine sq (by first | exact dneqt | exact dneqf) ?_; refine sq qm ?_; (first | refine sk ?_ | refine skv ?_ | (refine st_want rfl rfl ?_; refine sq qm ?_)); (first | refine sk ?_ | refine skv ?_ | (refine st_want rfl rfl ?_; refine sq qls ?_)); (first | refine sk ?_ | refine skv ?_ | (refine st_want rfl rfl ?_; refine sq (by first | exact dgtrt | exact dgtrf) ?_)); refine sq (by first | exact qpt | exact qpf) ?_; refine l_nil ?_) | refine n_then ?_ | refine c_block ?_ | refine c_skip ?_ | refine n_block ?_ | refine c_exit ?_ | refine n_then_exit ?_ | refine n_block_eq ?_ | refine n_block_ne rfl ?_ | refine c_ret ?_ | refine n_then_ret ?_ | refine n_block_ret ?_ | refine c_cond_t rfl ?_ | refine c_cond_f rfl ?_ | refine r_succ ?_ )
          refine c_round (γ := Nat × Nat) (j + 1, m') ⟨by dsimp only; omega, by dsimp only; omega⟩ (by dsimp only; omega) ⟨rfl, rfl, rfl, rfl, trivial⟩ (by rfl) (List.Sublist.refl _)
        · have hj2 : j = n + 1 := by omega
          repeat (first | refine c_seq ?_ | (refine c_region (id := 4) ?_; refine sq qm ?_; refine sq qm ?_; refine sq qn ?_; refine sq qf ?_; refine sq ql ?_; refine sq qls ?_; refine sq (by first | exact dleqt | exact dleqf) ?_; refine l_nil ?_) | (refine c_region (id := 5) ?_; refine sq qm ?_; refine sq (by exact Qt.cast (v' := .int .i64 (((j + 1 : Nat) : Int) - 1)) (congrArg (Value.int .i64) (by omega)) (q_add64 rfl rfl ⟨by omega, by omega⟩ rfl)) ?_; refine sq qa ?_; refine l_nil ?_) | (refine c_region (id := 6) ?_; refine sq qm ?_; refine sq qm ?_; refine se ?_; refine ecp rfl rfl (fun w hC hm hL => by exact rd_bad gd gw gm D ((j : Int) - 1) (by rw [hok.len]; omega) w (hL.sub (List.sublist_append_left _ _))) ?_; intro m' hm'; refine sq qm ?_; refine sq qe ?_; refine sq qe ?_; refine sq qa ?_; refine sq qa ?_; refine l_nil ?_) | (refine c_region (id := 7) ?_; refine sq qm ?_; refine sq (by first | exact dlsst | exact dlssf) ?_; refine sq qm ?_; (first | refine sk ?_ | refine skv ?_ | (refine st_want rfl rfl ?_; refine sq qm ?_)); (first | refine sk ?_ | refine skv ?_ | (refine st_want rfl rfl ?_; refine sq qm ?_)); (first | refine sk ?_ | refine skv ?_ | (refine st_want rfl rfl ?_; refine sq qn ?_)); (first | refine sk ?_ | refine skv ?_ | (refine st_want rfl rfl ?_; refine sq qf ?_)); (first | refine sk ?_ | refine skv ?_ | (refine st_want rfl rfl ?_; refine sq ql ?_)); (first | refine sk ?_ | refine skv ?_ | (refine st_want rfl rfl ?_; refine sq qls ?_)); (first | refine sk ?_ | refine skv ?_ | (refine st_want rfl rfl ?_; refine sq (by first | exact deqlt | exact deqlf) ?_)); refine sq (by first | exact qpt | exact qpf) ?_; refine l_nil ?_) | (refine c_region (id := 8) ?_; refine sq qm ?_; refine sq (by first | exact dneqt | exact dneqf) ?_; refine sq qm ?_; (first | refine sk ?_ | refine skv ?_ | (refine st_want rfl rfl ?_; refine sq qm ?_)); (first | refine sk ?_ | refine skv ?_ | (refine st_want rfl rfl ?_; refine sq qls ?_)); (first | refine sk ?_ | refine skv ?_ | (refine st_want rfl rfl ?_; refine sq (by first | exact dgtrt | exact dgtrf) ?_)); refine sq (by first | exact qpt | exact qpf) ?_; refine l_nil ?_) | refine n_then ?_ | refine c_block ?_ | refine c_skip ?_ | refine n_block ?_ | refine c_exit ?_ | refine n_then_exit ?_ | refine n_block_eq ?_ | refine n_block_ne rfl ?_ | refine c_ret ?_ | refine n_then_ret ?_ | refine n_block_ret ?_ | refine c_cond_t rfl ?_ | refine c_cond_f rfl ?_ | refine r_succ ?_ )
          refine c_round (γ := Nat × Nat) (j + 1, m') ⟨by dsimp only; omega, by dsimp only; omega⟩ (by dsimp only; omega) ⟨rfl, rfl, rfl, rfl, trivial⟩ (by rfl) (List.Sublist.refl _)
      · have hjr : 1 ≤ j ∧ j ≤ n := by omega
        · repeat (first | refine c_seq ?_ | (refine c_region (id := 4) ?_; refine sq qm ?_; refine sq qm ?_; refine sq qn ?_; refine sq qf ?_; refine sq ql ?_; refine sq qls ?_; refine sq (by first | exact dleqt | exact dleqf) ?_; refine l_nil ?_) | (refine c_region (id := 5) ?_; refine sq qm ?_; refine sq (by exact Qt.cast (v' := .int .i64 (((j + 1 : Nat) : Int) - 1)) (congrArg (Value.int .i64) (by omega)) (q_add64 rfl rfl ⟨by omega, by omega⟩ rfl)) ?_; refine sq qa ?_; refine l_nil ?_) | (refine c_region (id := 6) ?_; refine sq qm ?_; refine sq qm ?_; refine se ?_; refine ecp rfl rfl (fun w hC hm hL => by exact rd_gone gd gw gm D ((j : Int) - 1) (by rw [hok.len]; omega) hg w (hL.sub (List.sublist_append_left _ _))) ?_; intro m' hm'; refine sq qm ?_; refine sq qe ?_; refine sq qe ?_; refine sq qa ?_; refine sq qa ?_; refine l_nil ?_) | (refine c_region (id := 7) ?_; refine sq qm ?_; refine sq (by first | exact dlsst | exact dlssf) ?_; refine sq qm ?_; (first | refine sk ?_ | refine skv ?_ | (refine st_want rfl rfl ?_; refine sq qm ?_)); (first | refine sk ?_ | refine skv ?_ | (refine st_want rfl rfl ?_; refine sq qm ?_)); (first | refine sk ?_ | refine skv ?_ | (refine st_want rfl rfl ?_; refine sq qn ?_)); (first | refine sk ?_ | refine skv ?_ | (refine st_want rfl rfl ?_; refine sq qf ?_)); (first | refine sk ?_ | refine skv ?_ | (refine st_want rfl rfl ?_; refine sq ql ?_)); (first | refine sk ?_ | refine skv ?_ | (refine st_want rfl rfl ?_; refine sq qls ?_)); (first | refine sk ?_ | refine skv ?_ | (refine st_want rfl rfl ?_; refine sq (by first | exact deqlt | exact deqlf) ?_)); refine sq (by first | exact qpt | exact qpf) ?_; refine l_nil ?_) | (refine x_region (id := 10) none [(0, .n), (1, .n), (2, .n), (3, .q), (4, .n), (5, .n), (6, .n), (7, .n), (8, .n), (9, .n), (10, .n), (11, .n), (12, .n), (13, .n), (14, .n), (15, .n), (16, .n), (17, .q), (18, .n), (19, .n), (20, .n), (21, .n), (22, .n), (23, .n), (24, .q), (25, .n), (26, .n), (27, .n), (28, .q), (29, .n), (30, .n), (31, .q), (32, .q), (33, .n), (34, .n), (35, .n), (36, .n)] _ mixed (by kernel_rfl) (List.Sublist.refl _) ?_; refine xn rfl qm ?_; refine xn rfl qn ?_; refine xn rfl qf ?_; refine xq rfl ql ?_; refine xn rfl qm ?_; (first | refine x_nskip rfl rfl rfl rfl ?_ | refine x_nskipv rfl rfl (by rfl) rfl ?_ | refine x_ng rfl rfl rfl (by exact qm) rfl ?_); (first | refine x_nskip rfl rfl rfl rfl ?_ | refine x_nskipv rfl rfl (by rfl) rfl ?_ | refine x_ng rfl rfl rfl (by first | exact dneqt | exact dneqf) rfl ?_); (first | refine x_nskip rfl rfl rfl rfl ?_ | refine x_nskipv rfl rfl (by rfl) rfl ?_ | refine x_ng rfl rfl rfl (by exact qm) rfl ?_); (first | refine x_nskip rfl rfl rfl rfl ?_ | refine x_nskipv rfl rfl (by rfl) rfl ?_ | refine x_ng rfl rfl rfl (by exact qm) rfl ?_); (first | refine x_nskip rfl rfl rfl rfl ?_ | refine x_nskipv rfl rfl (by rfl) rfl ?_ | refine x_ng rfl rfl rfl (by exact qls) rfl ?_); (first | refine x_nskip rfl rfl rfl rfl ?_ | refine x_nskipv rfl rfl (by rfl) rfl ?_ | refine x_ng rfl rfl rfl (by first | exact dgtrt | exact dgtrf) rfl ?_); (first | refine x_nskip rfl rfl rfl rfl ?_ | refine x_nskipv rfl rfl (by rfl) rfl ?_ | refine x_ng rfl rfl rfl (by first | exact qpt | exact qpf) rfl ?_); refine xn rfl (by first | exact qpt | exact qpf) ?_; refine xn rfl qm ?_; (first | refine x_nskip rfl rfl rfl rfl ?_ | refine x_nskipv rfl rfl (by rfl) rfl ?_ | refine x_ng rfl rfl rfl (by exact qm) rfl ?_); (first | refine x_nskip rfl rfl rfl rfl ?_ | refine x_nskipv rfl rfl (by rfl) rfl ?_ | refine x_ng rfl rfl rfl (by exact qn) rfl ?_); (first | refine x_nskip rfl rfl rfl rfl ?_ | refine x_nskipv rfl rfl (by rfl) rfl ?_ | refine x_ng rfl rfl rfl (by exact qf) rfl ?_); (first | refine x_skip rfl rfl rfl rfl ?_ | refine x_skipv rfl rfl (by rfl) rfl ?_ | refine x_qg rfl rfl rfl (by exact ql) rfl ?_); (first | refine x_nskip rfl rfl rfl rfl ?_ | refine x_nskipv rfl rfl (by rfl) rfl ?_ | refine x_ng rfl rfl rfl (by exact qnt) rfl ?_); (first | refine x_nskip rfl rfl rfl rfl ?_ | refine x_nskipv rfl rfl (by rfl) rfl ?_ | refine x_ng rfl rfl rfl (by exact qm) rfl ?_); (first | refine x_nskip rfl rfl rfl rfl ?_ | refine x_nskipv rfl rfl (by rfl) rfl ?_ | refine x_ng rfl rfl rfl (by exact qm) rfl ?_); (first | refine x_nskip rfl rfl rfl rfl ?_ | refine x_nskipv rfl rfl (by rfl) rfl ?_ | refine x_ng rfl rfl rfl (by first | exact dneqt | exact dneqf) rfl ?_); (first | refine x_nskip rfl rfl rfl rfl ?_ | refine x_nskipv rfl rfl (by rfl) rfl ?_ | refine x_ng rfl rfl rfl (by exact qm) rfl ?_); (first | refine x_nskip rfl rfl rfl rfl ?_ | refine x_nskipv rfl rfl (by rfl) rfl ?_ | refine x_ng rfl rfl rfl (by exact qm) rfl ?_); (first | refine x_skip rfl rfl rfl rfl ?_ | refine x_skipv rfl rfl (by rfl) rfl ?_ | refine x_qg rfl rfl rfl (by exact qcb rfl (Vw.own (.inr ⟨_, rfl⟩) (by (repeat (first | exact List.Mem.head _ | apply List.Mem.tail)))) (secL_len _ _)) rfl ?_); (first | refine x_nskip rfl rfl rfl rfl ?_ | refine x_nskipv rfl rfl (by rfl) rfl ?_ | refine x_ng rfl rfl rfl (by exact qm) rfl ?_); (first | refine x_nskip rfl rfl rfl rfl ?_ | refine x_nskipv rfl rfl (by rfl) rfl ?_ | refine x_ng rfl rfl rfl (by exact qn) rfl ?_); (first | refine x_nskip rfl rfl rfl rfl ?_ | refine x_nskipv rfl rfl (by rfl) rfl ?_ | refine x_ng rfl rfl rfl (by exact qf) rfl ?_); (first | refine x_skip rfl rfl rfl rfl ?_ | refine x_skipv rfl rfl (by rfl) rfl ?_ | refine x_qg rfl rfl rfl (by exact ql) rfl ?_); (first | refine x_nskip rfl rfl rfl rfl ?_ | refine x_nskipv rfl rfl (by rfl) rfl ?_ | refine x_ng rfl rfl rfl (by exact qm) rfl ?_); (first | refine x_nskip rfl rfl rfl rfl ?_ | refine x_nskipv rfl rfl (by rfl) rfl ?_ | refine x_ng rfl rfl rfl (by exact qis (o' := i0) (ho := by omega)) rfl ?_); (first | refine x_skip rfl rfl rfl rfl ?_ | refine x_skipv rfl rfl (by rfl) rfl ?_ | refine x_qg rfl rfl rfl (by exact ql (hr := Rd.sln (by (repeat (first | exact List.Mem.head _ | apply List.Mem.tail))) hnn)) rfl ?_); (first | refine x_skip rfl rfl rfl rfl ?_ | refine x_skipv rfl rfl (by rfl) rfl ?_ | refine x_qg rfl rfl rfl (by exact qcb rfl (Vw.own (.inr ⟨_, rfl⟩) (List.mem_append_right _ (List.mem_append_right _ hmr))) (secL_len _ _)) rfl ?_); (first | refine x_nskip rfl rfl rfl rfl ?_ | refine x_nskipv rfl rfl (by rfl) rfl ?_ | refine x_ng rfl rfl rfl (by exact Qt.cast (v' := .bool false) (congrArg Value.bool (by rw [beq_self_eq_true]; rfl)) (q_neq_str rfl rfl)) rfl ?_); (first | refine x_nskip rfl rfl rfl rfl ?_ | refine x_nskipv rfl rfl (by rfl) rfl ?_ | refine x_ng rfl rfl rfl (by first | exact qpt | exact qpf) rfl ?_); (first | refine x_nskip rfl rfl rfl rfl ?_ | refine x_nskipv rfl rfl (by rfl) rfl ?_ | refine x_ng rfl rfl rfl (by first | exact qpt | exact qpf) rfl ?_); refine xn rfl (by first | exact qpt | exact qpf) ?_; refine x_nil ?_) | refine n_then ?_ | refine c_block ?_ | refine c_skip ?_ | refine n_block ?_ | refine c_exit ?_ | refine n_then_exit ?_ | refine n_block_eq ?_ | refine n_block_ne rfl ?_ | refine c_ret ?_ | refine n_then_ret ?_ | refine n_block_ret ?_ | refine c_cond_t rfl ?_ | refine c_cond_f rfl ?_ | refine r_succ ?_ )
          refine c_round (γ := Nat × Nat) (j + 1, m') ⟨by dsimp only; omega, by dsimp only; omega⟩ (by dsimp only; omega) ⟨rfl, rfl, rfl, rfl, trivial⟩ (by rfl) (List.Sublist.refl _)
    · repeat (first | refine c_seq ?_ | (refine c_region (id := 4) ?_; refine sq qm ?_; refine sq qm ?_; refine sq qn ?_; refine sq qf ?_; refine sq ql ?_; refine sq qls ?_; refine sq (by first | exact dleqt | exact dleqf) ?_; refine l_nil ?_) | (refine c_region (id := 12) ?_; refine sq qa ?_; refine l_nil ?_) | refine n_then ?_ | refine c_block ?_ | refine c_skip ?_ | refine n_block ?_ | refine c_exit ?_ | refine n_then_exit ?_ | refine n_block_eq ?_ | refine n_block_ne rfl ?_ | refine c_ret ?_ | refine n_then_ret ?_ | refine n_block_ret ?_ | refine c_cond_t rfl ?_ | refine c_cond_f rfl ?_ | refine r_succ ?_ )
      (first | apply r_ret () | apply r_end ()); exact rfl; exact rfl; exact (.tmp rfl .nil); exact rfl; exact (List.nil_sublist _); exact new_nil; exact trivial
  | false =>
    rw [hg] at hD hJ
    refine enter (L := DskL gd gw gm D ++ ([.blk b.g (.cells #[.slice b.bn rows.length b.cn, .slice b.bw rows.length b.cw, .slice b.bi rows.length b.ci, .int .i64 fz, .bool false] 81 (0, 0)), .sl b.bn b.cn 33 1 ((rows.map Row.n).map encS), .sl b.bw b.cw 33 1 ((rows.map Row.w).map encS), .sl b.bi b.ci 4 1 ((rows.map Row.is).map Value.bool)] ++ rowsC rows)) (X := []) Try.func23 rfl Try.ntmps23 rfl rfl hD ?_
    repeat (first | refine c_seq ?_ | (refine c_region (id := 0) ?_; refine sq qa ?_; refine l_nil ?_) | (refine x_region (id := 1) none [(0, .n), (2, .n), (3, .n), (4, .n), (5, .q), (6, .n), (1, .e), (7, .n), (8, .n), (9, .n), (11, .n), (10, .e), (12, .e), (13, .n), (14, .n), (15, .n), (16, .n), (18, .n), (19, .n), (20, .n), (21, .q), (17, .e), (22, .n), (23, .n)] _ mixed (by kernel_rfl) (List.Sublist.refl _) ?_; refine xn rfl qm ?_; refine xn rfl qm ?_; refine xn rfl qn ?_; refine xn rfl qf ?_; refine xq rfl ql ?_; refine xn rfl qls ?_; refine x_e rfl ?_; refine ecp rfl rfl (fun w hC hm hL => by have h9 := sect_c gd gw gm D w (hL.sub (List.sublist_append_left _ _)); rw [hok.len] at h9; exact h9) ?_; intro m' hm'; refine xk ?_; refine xn rfl (by first | exact dneqt | exact dneqf) ?_; refine xn rfl qm ?_; (first | refine x_nskip rfl rfl rfl rfl ?_ | refine x_nskipv rfl rfl (by rfl) rfl ?_ | refine x_ng rfl rfl rfl (by exact qm) rfl ?_); (first | refine x_nskip rfl rfl rfl rfl ?_ | refine x_nskipv rfl rfl (by rfl) rfl ?_ | refine x_ng rfl rfl rfl (by exact qm) rfl ?_); (first | refine x_eskip (List.Sublist.refl _) rfl rfl rfl rfl ?_ | refine x_eskipv (List.Sublist.refl _) rfl rfl (by rfl) rfl ?_ | (refine x_eg rfl rfl rfl ?_; refine ecp rfl rfl (fun w hC hm hL => by exact loose_c gd gw gm D w (hL.sub (List.sublist_append_left _ _))) ?_; intro m' hm'; refine xk ?_)); (first | refine x_eskip (List.Sublist.refl _) rfl rfl rfl rfl ?_ | refine x_eskipv (List.Sublist.refl _) rfl rfl (by rfl) rfl ?_ | (refine x_eg rfl rfl rfl ?_; refine ecp rfl rfl (fun w hC hm hL => by have h9 := rloose_c b ⟨rows, fz, false⟩ k0 hbk (by dsimp only; omega) w (hL.sub (List.sublist_append_right _ _)); dsimp only at h9; exact h9) ?_; intro m' hm'; refine xk ?_)); (first | refine x_nskip rfl rfl rfl rfl ?_ | refine x_nskipv rfl rfl (by rfl) rfl ?_ | refine x_ng rfl rfl rfl (by first | exact dneqt | exact dneqf) rfl ?_); refine xn rfl (by first | exact qpt | exact qpf) ?_; refine xn rfl qm ?_; (first | refine x_nskip rfl rfl rfl rfl ?_ | refine x_nskipv rfl rfl (by rfl) rfl ?_ | refine x_ng rfl rfl rfl (by exact qm) rfl ?_); (first | refine x_nskip rfl rfl rfl rfl ?_ | refine x_nskipv rfl rfl (by rfl) rfl ?_ | refine x_ng rfl rfl rfl (by exact qm) rfl ?_); (first | refine x_nskip rfl rfl rfl rfl ?_ | refine x_nskipv rfl rfl (by rfl) rfl ?_ | refine x_ng rfl rfl rfl (by exact qn) rfl ?_); (first | refine x_nskip rfl rfl rfl rfl ?_ | refine x_nskipv rfl rfl (by rfl) rfl ?_ | refine x_ng rfl rfl rfl (by exact qf) rfl ?_); (first | refine x_skip rfl rfl rfl rfl ?_ | refine x_skipv rfl rfl (by rfl) rfl ?_ | refine x_qg rfl rfl rfl (by exact ql) rfl ?_); (first | refine x_eskip (List.Sublist.refl _) rfl rfl rfl rfl ?_ | refine x_eskipv (List.Sublist.refl _) rfl rfl (by rfl) rfl ?_ | (refine x_eg rfl rfl rfl ?_; refine ecp rfl rfl (fun w hC hm hL => by have h9 := gone_c gd gw gm D w (hL.sub (List.sublist_append_left _ _)); rw [hg] at h9; exact h9) ?_; intro m' hm'; refine xk ?_)); (first | refine x_nskip rfl rfl rfl rfl ?_ | refine x_nskipv rfl rfl (by rfl) rfl ?_ | refine x_ng rfl rfl rfl (by exact qneqb) rfl ?_); refine xn rfl (by first | exact qpt | exact qpf) ?_; refine x_nil ?_) | (refine c_region (id := 3) ?_; refine sq qa ?_; refine l_nil ?_) | refine n_then ?_ | refine c_block ?_ | refine c_skip ?_ | refine n_block ?_ | refine c_exit ?_ | refine n_then_exit ?_ | refine n_block_eq ?_ | refine n_block_ne rfl ?_ | refine c_ret ?_ | refine n_then_ret ?_ | refine n_block_ret ?_ | refine c_cond_t rfl ?_ | refine c_cond_f rfl ?_ | refine r_succ ?_ )
    refine c_loop (γ := Nat × Nat) (fun z => [(5, .int .i64 ((z.1 : Int) - 1)), (4, .bool false), (0, .pointer (some ⟨gd, 0, none⟩)), (1, .pointer (some ⟨b.g, 0, none⟩))]) (fun z => z.2) (fun _ => DskL gd gw gm D ++ ([.blk b.g (.cells #[.slice b.bn rows.length b.cn, .slice b.bw rows.length b.cw, .slice b.bi rows.length b.ci, .int .i64 fz, .bool false] 81 (0, 0)), .sl b.bn b.cn 33 1 ((rows.map Row.n).map encS), .sl b.bw b.cw 33 1 ((rows.map Row.w).map encS), .sl b.bi b.ci 4 1 ((rows.map Row.is).map Value.bool)] ++ rowsC rows)) (fun z => z.1 ≤ n + 2 ∧ w.heap.size ≤ z.2) (fun z => n + 2 - z.1) (0, m') ⟨by simp, by dsimp only; omega⟩ ⟨rfl, rfl, rfl, rfl, trivial⟩ rfl (List.Sublist.refl _) ?_
    rintro ⟨j, mm⟩ ⟨hj, hmm⟩
    dsimp only at hj hmm ⊢
    by_cases hje : j ≤ n + 1
    · by_cases hj0 : j = 0 ∨ j = n + 1
      · by_cases hj1 : j = 0
        · repeat (first | refine c_seq ?_ | (refine c_region (id := 4) ?_; refine sq qm ?_; refine sq qm ?_; refine sq qn ?_; refine sq qf ?_; refine sq ql ?_; refine sq qls ?_; refine sq (by first | exact dleqt | exact dleqf) ?_; refine l_nil ?_) | (refine c_region (id := 5) ?_; refine sq qm ?_; refine sq (by exact Qt.cast (v' := .int .i64 (((j + 1 : Nat) : Int) - 1)) (congrArg (Value.int .i64) (by omega)) (q_add64 rfl rfl ⟨by omega, by omega⟩ rfl)) ?_; refine sq qa ?_; refine l_nil ?_) | (refine c_region (id := 6) ?_; refine sq qm ?_; refine sq qm ?_; refine se ?_; refine ecp rfl rfl (fun w hC hm hL => by exact rd_bad gd gw gm D ((j : Int) - 1) (by rw [hok.len]; omega) w (hL.sub (List.sublist_append_left _ _))) ?_; intro m' hm'; refine sq qm ?_; refine sq qe ?_; refine sq qe ?_; refine sq qa ?_; refine sq qa ?_; refine l_nil ?_) | (refine c_region (id := 7) ?_; refine sq qm ?_; refine sq (by first | exact dlsst | exact dlssf) ?_; refine sq qm ?_; (first | refine sk ?_ | refine skv ?_ | (refine st_want rfl rfl ?_; refine sq qm ?_)); (first | refine sk ?_ | refine skv ?_ | (refine st_want rfl rfl ?_; refine sq qm ?_)); (first | refine sk ?_ | refine skv ?_ | (refine st_want rfl rfl ?_; refine sq qn ?_)); (first | refine sk ?_ | refine skv ?_ | (refine st_want rfl rfl ?_; refine sq qf ?_)); (first | refine sk ?_ | refine skv ?_ | (refine st_want rfl rfl ?_; refine sq ql ?_)); (first | refine sk ?_ | refine skv ?_ | (refine st_want rfl rfl ?_; refine sq qls ?_)); (first | refine sk ?_ | refine skv ?_ | (refine st_want rfl rfl ?_; refine sq (by first | exact deqlt | exact deqlf) ?_)); refine sq (by first | exact qpt | exact qpf) ?_; refine l_nil ?_) | (refine c_region (id := 8) ?_; refine sq qm ?_; refine sq (by first | exact dneqt | exact dneqf) ?_; refine sq qm ?_; (first | refine sk ?_ | refine skv ?_ | (refine st_want rfl rfl ?_; refine sq qm ?_)); (first | refine sk ?_ | refine skv ?_ | (refine st_want rfl rfl ?_; refine sq qls ?_)); (first | refine sk ?_ | refine skv ?_ | (refine st_want rfl rfl ?_; refine sq (by first | exact dgtrt | exact dgtrf) ?_)); refine sq (by first | exact qpt | exact qpf) ?_; refine l_nil ?_) | refine n_then ?_ | refine c_block ?_ | refine c_skip ?_ | refine n_block ?_ | refine c_exit ?_ | refine n_then_exit ?_ | refine n_block_eq ?_ | refine n_block_ne rfl ?_ | refine c_ret ?_ | refine n_then_ret ?_ | refine n_block_ret ?_ | refine c_cond_t rfl ?_ | refine c_cond_f rfl ?_ | refine r_succ ?_ )
          refine c_round (γ := Nat × Nat) (j + 1, m') ⟨by dsimp only; omega, by dsimp only; omega⟩ (by dsimp only; omega) ⟨rfl, rfl, rfl, rfl, trivial⟩ (by rfl) (List.Sublist.refl _)
        · have hj2 : j = n + 1 := by omega
          repeat (first | refine c_seq ?_ | (refine c_region (id := 4) ?_; refine sq qm ?_; refine sq qm ?_; refine sq qn ?_; refine sq qf ?_; refine sq ql ?_; refine sq qls ?_; refine sq (by first | exact dleqt | exact dleqf) ?_; refine l_nil ?_) | (refine c_region (id := 5) ?_; refine sq qm ?_; refine sq (by exact Qt.cast (v' := .int .i64 (((j + 1 : Nat) : Int) - 1)) (congrArg (Value.int .i64) (by omega)) (q_add64 rfl rfl ⟨by omega, by omega⟩ rfl)) ?_; refine sq qa ?_; refine l_nil ?_) | (refine c_region (id := 6) ?_; refine sq qm ?_; refine sq qm ?_; refine se ?_; refine ecp rfl rfl (fun w hC hm hL => by exact rd_bad gd gw gm D ((j : Int) - 1) (by rw [hok.len]; omega) w (hL.sub (List.sublist_append_left _ _))) ?_; intro m' hm'; refine sq qm ?_; refine sq qe ?_; refine sq qe ?_; refine sq qa ?_; refine sq qa ?_; refine l_nil ?_) | (refine c_region (id := 7) ?_; refine sq qm ?_; refine sq (by first | exact dlsst | exact dlssf) ?_; refine sq qm ?_; (first | refine sk ?_ | refine skv ?_ | (refine st_want rfl rfl ?_; refine sq qm ?_)); (first | refine sk ?_ | refine skv ?_ | (refine st_want rfl rfl ?_; refine sq qm ?_)); (first | refine sk ?_ | refine skv ?_ | (refine st_want rfl rfl ?_; refine sq qn ?_)); (first | refine sk ?_ | refine skv ?_ | (refine st_want rfl rfl ?_; refine sq qf ?_)); (first | refine sk ?_ | refine skv ?_ | (refine st_want rfl rfl ?_; refine sq ql ?_)); (first | refine sk ?_ | refine skv ?_ | (refine st_want rfl rfl ?_; refine sq qls ?_)); (first | refine sk ?_ | refine skv ?_ | (refine st_want rfl rfl ?_; refine sq (by first | exact deqlt | exact deqlf) ?_)); refine sq (by first | exact qpt | exact qpf) ?_; refine l_nil ?_) | (refine c_region (id := 8) ?_; refine sq qm ?_; refine sq (by first | exact dneqt | exact dneqf) ?_; refine sq qm ?_; (first | refine sk ?_ | refine skv ?_ | (refine st_want rfl rfl ?_; refine sq qm ?_)); (first | refine sk ?_ | refine skv ?_ | (refine st_want rfl rfl ?_; refine sq qls ?_)); (first | refine sk ?_ | refine skv ?_ | (refine st_want rfl rfl ?_; refine sq (by first | exact dgtrt | exact dgtrf) ?_)); refine sq (by first | exact qpt | exact qpf) ?_; refine l_nil ?_) | refine n_then ?_ | refine c_block ?_ | refine c_skip ?_ | refine n_block ?_ | refine c_exit ?_ | refine n_then_exit ?_ | refine n_block_eq ?_ | refine n_block_ne rfl ?_ | refine c_ret ?_ | refine n_then_ret ?_ | refine n_block_ret ?_ | refine c_cond_t rfl ?_ | refine c_cond_f rfl ?_ | refine r_succ ?_ )
          refine c_round (γ := Nat × Nat) (j + 1, m') ⟨by dsimp only; omega, by dsimp only; omega⟩ (by dsimp only; omega) ⟨rfl, rfl, rfl, rfl, trivial⟩ (by rfl) (List.Sublist.refl _)
      · have hjr : 1 ≤ j ∧ j ≤ n := by omega
        · obtain ⟨i0, hi0⟩ : ∃ i0 : Nat, j = i0 + 1 := ⟨j - 1, by omega⟩
          have hji : (j : Int) - 1 = (i0 : Int) := by omega
          obtain ⟨r, hr⟩ : ∃ r, rows[i0]? = some r := ⟨_, List.getElem?_eq_getElem (by omega)⟩
          have hsec : D.secs[i0]? = some r.n.2.2 := by rw [← hJ.c]; simp [hr]
          have hnn : nth ((rows.map Row.n).map encS) i0 = some (encS r.n) := by rw [nth_eq]; simp [hr]
          have hmr : chS r.n ∈ RL b ⟨rows, fz, false⟩ := List.mem_append_right _ (List.mem_flatMap.2 ⟨r, List.mem_of_getElem? hr, by simp [rowC]⟩)
          obtain ⟨gn, hgn⟩ := hbk.on.some (by omega)
          obtain ⟨g, bn, cn, bw, cw, bi, ci⟩ := b
          dsimp only at hgn
          subst hgn
          repeat (first | refine c_seq ?_ | (refine c_region (id := 4) ?_; refine sq qm ?_; refine sq qm ?_; refine sq qn ?_; refine sq qf ?_; refine sq ql ?_; refine sq qls ?_; refine sq (by first | exact dleqt | exact dleqf) ?_; refine l_nil ?_) | (refine c_region (id := 5) ?_; refine sq qm ?_; refine sq (by exact Qt.cast (v' := .int .i64 (((j + 1 : Nat) : Int) - 1)) (congrArg (Value.int .i64) (by omega)) (q_add64 rfl rfl ⟨by omega, by omega⟩ rfl)) ?_; refine sq qa ?_; refine l_nil ?_) | (refine c_region (id := 6) ?_; refine sq qm ?_; refine sq qm ?_; refine se ?_; refine ecl rfl rfl (fun w hC hm hL => by rw [hji]; exact rd_ok gd gw gm D i0 r.n.2.2 hsec hg (by rw [hok.len]; omega) w (hL.sub (List.sublist_append_left _ _))) ?_; intro z9 m9 hz9 hn9 hm9; obtain ⟨b9, cap9⟩ := z9; obtain ⟨hz9a, hz9b, g9, hz9c⟩ := hz9; dsimp only at hz9a hz9b hz9c; subst hz9c; dsimp only; refine sq qm ?_; refine sq qe ?_; refine sq qe ?_; refine sq qa ?_; refine sq qa ?_; refine l_nil ?_) | (refine c_region (id := 7) ?_; refine sq qm ?_; refine sq (by first | exact dlsst | exact dlssf) ?_; refine sq qm ?_; (first | refine sk ?_ | refine skv ?_ | (refine st_want rfl rfl ?_; refine sq qm ?_)); (first | refine sk ?_ | refine skv ?_ | (refine st_want rfl rfl ?_; refine sq qm ?_)); (first | refine sk ?_ | refine skv ?_ | (refine st_want rfl rfl ?_; refine sq qn ?_)); (first | refine sk ?_ | refine skv ?_ | (refine st_want rfl rfl ?_; refine sq qf ?_)); (first | refine sk ?_ | refine skv ?_ | (refine st_want rfl rfl ?_; refine sq ql ?_)); (first | refine sk ?_ | refine skv ?_ | (refine st_want rfl rfl ?_; refine sq qls ?_)); (first | refine sk ?_ | refine skv ?_ | (refine st_want rfl rfl ?_; refine sq (by first | exact deqlt | exact deqlf) ?_)); refine sq (by first | exact qpt | exact qpf) ?_; refine l_nil ?_) | (refine x_region (id := 10) none [(0, .n), (1, .n), (2, .n), (3, .q), (4, .n), (5, .n), (6, .n), (7, .n), (8, .n), (9, .n), (10, .n), (11, .n), (12, .n), (13, .n), (14, .n), (15, .n), (16, .n), (17, .q), (18, .n), (19, .n), (20, .n), (21, .n), (22, .n), (23, .n), (24, .q), (25, .n), (26, .n), (27, .n), (28, .q), (29, .n), (30, .n), (31, .q), (32, .q), (33, .n), (34, .n), (35, .n), (36, .n)] _ mixed (by kernel_rfl) (List.Sublist.refl _) ?_; refine xn rfl qm ?_; refine xn rfl qn ?_; refine xn rfl qf ?_; refine xq rfl ql ?_; refine xn rfl qm ?_; (first | refine x_nskip rfl rfl rfl rfl ?_ | refine x_nskipv rfl rfl (by rfl) rfl ?_ | refine x_ng rfl rfl rfl (by exact qm) rfl ?_); (first | refine x_nskip rfl rfl rfl rfl ?_ | refine x_nskipv rfl rfl (by rfl) rfl ?_ | refine x_ng rfl rfl rfl (by first | exact dneqt | exact dneqf) rfl ?_); (first | refine x_nskip rfl rfl rfl rfl ?_ | refine x_nskipv rfl rfl (by rfl) rfl ?_ | refine x_ng rfl rfl rfl (by exact qm) rfl ?_); (first | refine x_nskip rfl rfl rfl rfl ?_ | refine x_nskipv rfl rfl (by rfl) rfl ?_ | refine x_ng rfl rfl rfl (by exact qm) rfl ?_); (first | refine x_nskip rfl rfl rfl rfl ?_ | refine x_nskipv rfl rfl (by rfl) rfl ?_ | refine x_ng rfl rfl rfl (by exact qls) rfl ?_); (first | refine x_nskip rfl rfl rfl rfl ?_ | refine x_nskipv rfl rfl (by rfl) rfl ?_ | refine x_ng rfl rfl rfl (by first | exact dgtrt | exact dgtrf) rfl ?_); (first | refine x_nskip rfl rfl rfl rfl ?_ | refine x_nskipv rfl rfl (by rfl) rfl ?_ | refine x_ng rfl rfl rfl (by first | exact qpt | exact qpf) rfl ?_); refine xn rfl (by first | exact qpt | exact qpf) ?_; refine xn rfl qm ?_; (first | refine x_nskip rfl rfl rfl rfl ?_ | refine x_nskipv rfl rfl (by rfl) rfl ?_ | refine x_ng rfl rfl rfl (by exact qm) rfl ?_); (first | refine x_nskip rfl rfl rfl rfl ?_ | refine x_nskipv rfl rfl (by rfl) rfl ?_ | refine x_ng rfl rfl rfl (by exact qn) rfl ?_); (first | refine x_nskip rfl rfl rfl rfl ?_ | refine x_nskipv rfl rfl (by rfl) rfl ?_ | refine x_ng rfl rfl rfl (by exact qf) rfl ?_); (first | refine x_skip rfl rfl rfl rfl ?_ | refine x_skipv rfl rfl (by rfl) rfl ?_ | refine x_qg rfl rfl rfl (by exact ql) rfl ?_); (first | refine x_nskip rfl rfl rfl rfl ?_ | refine x_nskipv rfl rfl (by rfl) rfl ?_ | refine x_ng rfl rfl rfl (by exact qnt) rfl ?_); (first | refine x_nskip rfl rfl rfl rfl ?_ | refine x_nskipv rfl rfl (by rfl) rfl ?_ | refine x_ng rfl rfl rfl (by exact qm) rfl ?_); (first | refine x_nskip rfl rfl rfl rfl ?_ | refine x_nskipv rfl rfl (by rfl) rfl ?_ | refine x_ng rfl rfl rfl (by exact qm) rfl ?_); (first | refine x_nskip rfl rfl rfl rfl ?_ | refine x_nskipv rfl rfl (by rfl) rfl ?_ | refine x_ng rfl rfl rfl (by first | exact dneqt | exact dneqf) rfl ?_); (first | refine x_nskip rfl rfl rfl rfl ?_ | refine x_nskipv rfl rfl (by rfl) rfl ?_ | refine x_ng rfl rfl rfl (by exact qm) rfl ?_); (first | refine x_nskip rfl rfl rfl rfl ?_ | refine x_nskipv rfl rfl (by rfl) rfl ?_ | refine x_ng rfl rfl rfl (by exact qm) rfl ?_); (first | refine x_skip rfl rfl rfl rfl ?_ | refine x_skipv rfl rfl (by rfl) rfl ?_ | refine x_qg rfl rfl rfl (by exact qcb rfl (Vw.own (.inr ⟨_, rfl⟩) (by (repeat (first | exact List.Mem.head _ | apply List.Mem.tail)))) (secL_len _ _)) rfl ?_); (first | refine x_nskip rfl rfl rfl rfl ?_ | refine x_nskipv rfl rfl (by rfl) rfl ?_ | refine x_ng rfl rfl rfl (by exact qm) rfl ?_); (first | refine x_nskip rfl rfl rfl rfl ?_ | refine x_nskipv rfl rfl (by rfl) rfl ?_ | refine x_ng rfl rfl rfl (by exact qn) rfl ?_); (first | refine x_nskip rfl rfl rfl rfl ?_ | refine x_nskipv rfl rfl (by rfl) rfl ?_ | refine x_ng rfl rfl rfl (by exact qf) rfl ?_); (first | refine x_skip rfl rfl rfl rfl ?_ | refine x_skipv rfl rfl (by rfl) rfl ?_ | refine x_qg rfl rfl rfl (by exact ql) rfl ?_); (first | refine x_nskip rfl rfl rfl rfl ?_ | refine x_nskipv rfl rfl (by rfl) rfl ?_ | refine x_ng rfl rfl rfl (by exact qm) rfl ?_); (first | refine x_nskip rfl rfl rfl rfl ?_ | refine x_nskipv rfl rfl (by rfl) rfl ?_ | refine x_ng rfl rfl rfl (by exact qis (o' := i0) (ho := by omega)) rfl ?_); (first | refine x_skip rfl rfl rfl rfl ?_ | refine x_skipv rfl rfl (by rfl) rfl ?_ | refine x_qg rfl rfl rfl (by exact ql (hr := Rd.sln (by (repeat (first | exact List.Mem.head _ | apply List.Mem.tail))) hnn)) rfl ?_); (first | refine x_skip rfl rfl rfl rfl ?_ | refine x_skipv rfl rfl (by rfl) rfl ?_ | refine x_qg rfl rfl rfl (by exact qcb rfl (Vw.own (.inr ⟨_, rfl⟩) (List.mem_append_right _ (List.mem_append_right _ hmr))) (secL_len _ _)) rfl ?_); (first | refine x_nskip rfl rfl rfl rfl ?_ | refine x_nskipv rfl rfl (by rfl) rfl ?_ | refine x_ng rfl rfl rfl (by exact Qt.cast (v' := .bool false) (congrArg Value.bool (by rw [beq_self_eq_true]; rfl)) (q_neq_str rfl rfl)) rfl ?_); (first | refine x_nskip rfl rfl rfl rfl ?_ | refine x_nskipv rfl rfl (by rfl) rfl ?_ | refine x_ng rfl rfl rfl (by first | exact qpt | exact qpf) rfl ?_); (first | refine x_nskip rfl rfl rfl rfl ?_ | refine x_nskipv rfl rfl (by rfl) rfl ?_ | refine x_ng rfl rfl rfl (by first | exact qpt | exact qpf) rfl ?_); refine xn rfl (by first | exact qpt | exact qpf) ?_; refine x_nil ?_) | refine n_then ?_ | refine c_block ?_ | refine c_skip ?_ | refine n_block ?_ | refine c_exit ?_ | refine n_then_exit ?_ | refine n_block_eq ?_ | refine n_block_ne rfl ?_ | refine c_ret ?_ | refine n_then_ret ?_ | refine n_block_ret ?_ | refine c_cond_t rfl ?_ | refine c_cond_f rfl ?_ | refine r_succ ?_ )
          refine c_round (γ := Nat × Nat) (j + 1, m9) ⟨by dsimp only; omega, by dsimp only; omega⟩ (by dsimp only; omega) ⟨rfl, rfl, rfl, rfl, trivial⟩ (by rfl) (by exact (by (repeat (first | exact List.nil_sublist _ | exact List.Sublist.slnil | apply List.Sublist.cons_cons | exact List.Sublist.refl _ | apply List.Sublist.cons))))
    · repeat (first | refine c_seq ?_ | (refine c_region (id := 4) ?_; refine sq qm ?_; refine sq qm ?_; refine sq qn ?_; refine sq qf ?_; refine sq ql ?_; refine sq qls ?_; refine sq (by first | exact dleqt | exact dleqf) ?_; refine l_nil ?_) | (refine c_region (id := 12) ?_; refine sq qa ?_; refine l_nil ?_) | refine n_then ?_ | refine c_block ?_ | refine c_skip ?_ | refine n_block ?_ | refine c_exit ?_ | refine n_then_exit ?_ | refine n_block_eq ?_ | refine n_block_ne rfl ?_ | refine c_ret ?_ | refine n_then_ret ?_ | refine n_block_ret ?_ | refine c_cond_t rfl ?_ | refine c_cond_f rfl ?_ | refine r_succ ?_ )
      (first | apply r_ret () | apply r_end ()); exact rfl; exact rfl; exact (.tmp rfl .nil); exact rfl; exact (List.nil_sublist _); exact new_nil; exact trivial
end Go.Proofs.Yteopejjlhmghbaa
namespace Go.Proofs.Yteopejjlhmghbaa
open Go Go.RowKit
set_option linter.unusedVariables false
set_option linter.unusedSimpArgs false
section
variable {P : Program} {n m d : Nat} {T : List (Nat × Value)} {X : List Nat} {w0 : World} {L L' A : List Chunk} {K : Act → World → Prop} {Q : Exit → Act → World → Prop}
  {ty : TypeId} {pos : String} {af : Array Edge} {gu : Option (Nat × Bool)}
theorem e_callZ {α : Type} {V : α → Value} {N : α → List Chunk} {Φ : α → Prop} {fop : Operand} {xs : List Operand} {ats : Array TypeId} {f : FuncId} {vs : List Value}
    (A : List Chunk) (L2 : α → List Chunk) (hf : ev T fop = some (.func (.func f) #[] #[])) (hargs : evs T xs = some vs) (hb : bodied P f = true) (hd : Nat.blt d n = true)
    (hsp : Sp A L L')
    (hcon : ∀ w, Ch X w0 w → w.heap.size = m → Has A w → Has L' w → (∀ g ∈ feet A, g ∉ feet L') → CA P f vs w (Ret V (feet A) N Φ w))
    (hY : ∀ g ∈ feet A, g ∈ X ∨ w0.heap.size ≤ g) (h2 : ∀ z, L' ++ N z = L2 z)
    (h : ∀ z m', Φ z → (∀ g ∈ feet (N z), g ∈ X ∨ w0.heap.size ≤ g) → m ≤ m' → ∀ a w, SS n ((d, V z) :: T) X w0 m' (L2 z) a w → K a w) :
    ∀ a w, SS n T X w0 m L a w → OW P ⟨some d, .call { callee := .value fop, args := xs.toArray, argTypes := ats }, ty, pos, af, gu⟩ K Q a w :=
  e_callX A (fun z => N z ++ L') hf hargs hb hd hsp hcon hY (fun z => rfl) (fun z m' hz hn hm => prm (by rw [← h2 z]; exact List.perm_append_comm) (h z m' hz hn hm))
end
theorem fin2 {n m : Nat} {T0 : List (Nat × Value)} {X : List Nat} {w0 : World} {A E B : List Chunk} {F : Act → World → Prop} (h : ∀ a w, SS n T0 X w0 m (A ++ B) a w → F a w) : ∀ a w, SS n T0 X w0 m ((A ++ E) ++ B) a w → F a w :=
  fun a w hS => h a w ⟨hS.agr, hS.ch, hS.size, hS.has.sub ((List.sublist_append_left A E).append (List.Sublist.refl B))⟩
theorem split_at (rows : List Row) (i : Nat) (h : i < rows.length) : ∃ P r Q, rows = P ++ r :: Q ∧ P.length = i :=
  ⟨rows.take i, rows[i], rows.drop (i + 1), by rw [← List.drop_eq_getElem_cons h, List.take_append_drop], by rw [List.length_take]; omega⟩
set_option maxRecDepth 100000 in
set_option maxHeartbeats 4000000 in
theorem do_sync (n k0 : Nat) (gd gw gm : Nat) (D : Dk) (b : Rb) (R : Rk) (hJ : JJ n D R) (hn : n ≤ 16000) (hbk : RbOK k0 n b) (kind II X8 : Int) (a : Option Addr) (len cap : Nat) (hkd : kind = 1) (w : World) (hD : Has (DskL gd gw gm D ++ RL b R) w) :
    CA Try.prog 22 [.pointer (some ⟨gd, 0, none⟩), .pointer (some ⟨b.g, 0, none⟩), .agg #[.int .u8 kind, .int .i64 II, .int .u8 X8, .slice a len cap]] w (Ret (fun _ : Dk × Rk => .bool true) ([gd, gw, gm] ++ feet (RL b R)) (fun z => DskL gd gw gm z.1 ++ RL b z.2) (fun z => JJ n z.1 z.2 ∧ z.1.cl ≤ D.cl + 1) w) := by
  have hlen := hJ.len
  have hok := hJ.ok
  have hpg := hJ.pg
  have hfb := hJ.fb
  rw [← hlen] at hbk
  cases hp : D.pgone with
  | true =>
    rw [hp] at hpg
    refine enter (L := DskL gd gw gm D ++ RL b R) (X := ([gd, gw, gm] ++ feet (RL b R))) Try.func22 rfl Try.ntmps22 rfl rfl hD ?_
    repeat (first | refine c_seq ?_ | (refine c_region (id := 0) ?_; refine se ?_; refine eb ?_; refine sq qa ?_; refine l_nil ?_) | (refine c_region (id := 1) ?_; refine sq qf ?_; refine sq ql ?_; refine l_nil ?_) | (refine c_region (id := 2) ?_; refine sq (by first | exact deqlt | exact deqlf) ?_; refine sq qa ?_; refine l_nil ?_) | (refine c_region (id := 5) ?_; refine sq (by first | exact deqlt | exact deqlf) ?_; refine sq qa ?_; refine l_nil ?_) | (refine c_region (id := 6) ?_; refine sq qm ?_; refine se ?_; refine e_callX (DskL gd gw gm D) (fun _ : Unit => DskL gd gw gm (D.dead) ++ ([.blk w.heap.size (.cells #[.int .u8 kind, .int .i64 II, .int .u8 X8, .slice a len cap] 52 (0, 0))] ++ RL b R)) rfl rfl (by kernel_rfl) rfl (by repeat (first | exact Sp.nil | (apply Sp.cons; focus (repeat (first | exact Rm.here | apply Rm.there))))) (fun w hC hm hA hL hap => by exact sync_lost gd gw gm D hok.hf hp w hA) (fun g hg => .inl (List.mem_append_left _ (by rw [feetD] at hg; exact hg))) (fun _ => by rfl) ?_; intro _ m5 _ _ hm5; refine sq qm ?_; refine se ?_; refine e_callZ (RL b R) (fun z : Unit => (DskL gd gw gm (D.dead) ++ [.blk w.heap.size (.cells #[.int .u8 kind, .int .i64 II, .int .u8 X8, .slice a len cap] 52 (0, 0))]) ++ RL b (R.dead)) rfl rfl (by kernel_rfl) rfl (by exact Sp.pre (DskL gd gw gm (D.dead) ++ [.blk w.heap.size (.cells #[.int .u8 kind, .int .i64 II, .int .u8 X8, .slice a len cap] 52 (0, 0))]) (RL b R)) (fun w hC hm hA hL hap => by exact rsync_lost b R hpg w hA) (fun g hg => .inl (List.mem_append_right _ hg)) (fun _ => by rfl) ?_; rintro ⟨⟩ m6 hzm6 hfrm6 hm6; refine sq (by first | exact deqlt | exact deqlf) ?_; refine sq qa ?_; refine l_nil ?_) | refine n_then ?_ | refine c_block ?_ | refine c_skip ?_ | refine n_block ?_ | refine c_exit ?_ | refine n_then_exit ?_ | refine n_block_eq ?_ | refine n_block_ne rfl ?_ | refine c_ret ?_ | refine n_then_ret ?_ | refine n_block_ret ?_ | refine c_cond_t rfl ?_ | refine c_cond_f rfl ?_ | refine r_succ ?_ )
    refine fin2 (A := DskL gd gw gm (D.dead)) (B := RL b (R.dead)) ?_
    (first | apply r_ret ((D.dead), (R.dead)) | apply r_end ((D.dead), (R.dead))); exact rfl; exact rfl; exact (.tmp rfl .nil); exact rfl; exact (List.Sublist.refl _); exact (fun g hg => by rw [feet_append] at hg; rcases List.mem_append.1 hg with hg | hg; exact .inl (List.mem_append_left _ (by rw [feetD] at hg; exact hg)); exact hfrm6 g hg); exact ⟨hJ.dead, Nat.le_succ _⟩
  | false =>
    rw [hp] at hpg
    obtain ⟨rows, fz, go⟩ := R
    refine enter (L := DskL gd gw gm D ++ RL b ⟨rows, fz, go⟩) (X := ([gd, gw, gm] ++ feet (RL b ⟨rows, fz, go⟩))) Try.func22 rfl Try.ntmps22 rfl rfl hD ?_
    repeat (first | refine c_seq ?_ | (refine c_region (id := 0) ?_; refine se ?_; refine eb ?_; refine sq qa ?_; refine l_nil ?_) | (refine c_region (id := 1) ?_; refine sq qf ?_; refine sq ql ?_; refine l_nil ?_) | (refine c_region (id := 2) ?_; refine sq (by first | exact deqlt | exact deqlf) ?_; refine sq qa ?_; refine l_nil ?_) | (refine c_region (id := 5) ?_; refine sq (by first | exact deqlt | exact deqlf) ?_; refine sq qa ?_; refine l_nil ?_) | (refine c_region (id := 6) ?_; refine sq qm ?_; refine se ?_; refine e_callX (DskL gd gw gm D) (fun _ : Unit => DskL gd gw gm (D.lit.still) ++ ([.blk w.heap.size (.cells #[.int .u8 kind, .int .i64 II, .int .u8 X8, .slice a len cap] 52 (0, 0))] ++ RL b ⟨rows, fz, go⟩)) rfl rfl (by kernel_rfl) rfl (by repeat (first | exact Sp.nil | (apply Sp.cons; focus (repeat (first | exact Rm.here | apply Rm.there))))) (fun w hC hm hA hL hap => by exact sync_ok gd gw gm D hok.hf hp w hA) (fun g hg => .inl (List.mem_append_left _ (by rw [feetD] at hg; exact hg))) (fun _ => by rfl) ?_; intro _ m5 _ _ hm5; refine sq qm ?_; refine se ?_; refine e_callZ (RL b ⟨rows, fz, go⟩) (fun z : List Row => (DskL gd gw gm (D.lit.still) ++ [.blk w.heap.size (.cells #[.int .u8 kind, .int .i64 II, .int .u8 X8, .slice a len cap] 52 (0, 0))]) ++ RL b (⟨z, (Rk.lit ⟨rows, fz, go⟩).fuse, go⟩)) rfl rfl (by kernel_rfl) rfl (by exact Sp.pre (DskL gd gw gm (D.lit.still) ++ [.blk w.heap.size (.cells #[.int .u8 kind, .int .i64 II, .int .u8 X8, .slice a len cap] 52 (0, 0))]) (RL b ⟨rows, fz, go⟩)) (fun w hC hm hA hL hap => by exact rsync_ok b rows fz go k0 hbk hpg hfb (by dsimp only at hlen; omega) w hA) (fun g hg => .inl (List.mem_append_right _ hg)) (fun _ => by rfl) ?_; rintro z m6 hzm6 hfrm6 hm6; refine sq (by first | exact deqlt | exact deqlf) ?_; refine sq qa ?_; refine l_nil ?_) | refine n_then ?_ | refine c_block ?_ | refine c_skip ?_ | refine n_block ?_ | refine c_exit ?_ | refine n_then_exit ?_ | refine n_block_eq ?_ | refine n_block_ne rfl ?_ | refine c_ret ?_ | refine n_then_ret ?_ | refine n_block_ret ?_ | refine c_cond_t rfl ?_ | refine c_cond_f rfl ?_ | refine r_succ ?_ )
    refine fin2 (A := DskL gd gw gm (D.lit.still)) (B := RL b (⟨z, (Rk.lit ⟨rows, fz, go⟩).fuse, go⟩)) ?_
    (first | apply r_ret ((D.lit.still), (⟨z, (Rk.lit ⟨rows, fz, go⟩).fuse, go⟩)) | apply r_end ((D.lit.still), (⟨z, (Rk.lit ⟨rows, fz, go⟩).fuse, go⟩))); exact rfl; exact rfl; exact (.tmp rfl .nil); exact rfl; exact (List.Sublist.refl _); exact (fun g hg => by rw [feet_append] at hg; rcases List.mem_append.1 hg with hg | hg; exact .inl (List.mem_append_left _ (by rw [feetD] at hg; exact hg)); exact hfrm6 g hg); exact ⟨hJ.sync hp z hzm6, Nat.le_succ _⟩
end Go.Proofs.Yteopejjlhmghbaa
namespace Go.Proofs.Yteopejjlhmghbaa
open Go Go.RowKit
set_option linter.unusedVariables false
set_option linter.unusedSimpArgs false
theorem slch {α : Type} {enc : α → Value} {X : List Nat} {w w' : World} {a : Option Addr} {xs : List α} (h : SlE enc w a xs) (hC : Ch X w w') (hx : 0 < xs.length → ∀ g o, a = some ⟨g, o, none⟩ → g ∉ X) : SlE enc w' a xs := by
  by_cases h0 : 0 < xs.length
  · exact h.ch hC (hx h0)
  · have : xs = [] := List.eq_nil_of_length_eq_zero (by omega)
    subst this
    exact SlE.nil
set_option maxRecDepth 100000 in
set_option maxHeartbeats 4000000 in
theorem do_crash (n k0 : Nat) (gd gw gm : Nat) (D : Dk) (b : Rb) (R : Rk) (hJ : JJ n D R) (hn : n ≤ 16000) (hbk : RbOK k0 n b) (kind II X8 : Int) (a : Option Addr) (len cap : Nat) (hkd : kind = 3) (hcl : D.cl ≤ 16384) (xs : List Int) (hxl : xs.length = len) (hbr : ∀ x ∈ xs, 0 ≤ x ∧ x ≤ 255) (hlc : len ≤ 9223372036854775807) (w : World) (hs : SlE (Value.int .u8) w a xs) (hsx : 0 < len → ∀ g o, a = some ⟨g, o, none⟩ → g ∉ [gd, gw, gm] ++ feet (RL b R)) (hD : Has (DskL gd gw gm D ++ RL b R) w) :
    CA Try.prog 22 [.pointer (some ⟨gd, 0, none⟩), .pointer (some ⟨b.g, 0, none⟩), .agg #[.int .u8 kind, .int .i64 II, .int .u8 X8, .slice a len cap]] w (Ret (fun _ : Dk × Rk => .bool true) ([gd, gw, gm] ++ feet (RL b R)) (fun z => DskL gd gw gm z.1 ++ RL b z.2) (fun z => JJ n z.1 z.2 ∧ z.1.cl ≤ D.cl + 1) w) := by
  have hlen := hJ.len
  have hok := hJ.ok
  have hpg := hJ.pg
  have hfb := hJ.fb
  rw [← hlen] at hbk
  obtain ⟨rows, fz, go⟩ := R
  refine enter (L := DskL gd gw gm D ++ RL b ⟨rows, fz, go⟩) (X := ([gd, gw, gm] ++ feet (RL b ⟨rows, fz, go⟩))) Try.func22 rfl Try.ntmps22 rfl rfl hD ?_
  repeat (first | refine c_seq ?_ | (refine c_region (id := 0) ?_; refine se ?_; refine eb ?_; refine sq qa ?_; refine l_nil ?_) | (refine c_region (id := 1) ?_; refine sq qf ?_; refine sq ql ?_; refine l_nil ?_) | (refine c_region (id := 2) ?_; refine sq (by first | exact deqlt | exact deqlf) ?_; refine sq qa ?_; refine l_nil ?_) | (refine c_region (id := 5) ?_; refine sq (by first | exact deqlt | exact deqlf) ?_; refine sq qa ?_; refine l_nil ?_) | (refine c_region (id := 7) ?_; refine sq (by first | exact deqlt | exact deqlf) ?_; refine sq qa ?_; refine l_nil ?_) | (refine c_region (id := 11) ?_; refine sq (by first | exact deqlt | exact deqlf) ?_; refine sq qa ?_; refine l_nil ?_) | (refine c_region (id := 12) ?_; refine sq qm ?_; refine sq qf ?_; refine sq ql ?_; refine se ?_; refine e_callX (DskL gd gw gm D) (fun _ : Unit => DskL gd gw gm (D.crash xs) ++ ([.blk w.heap.size (.cells #[.int .u8 kind, .int .i64 II, .int .u8 X8, .slice a len cap] 52 (0, 0))] ++ RL b ⟨rows, fz, go⟩)) rfl rfl (by kernel_rfl) rfl (by repeat (first | exact Sp.nil | (apply Sp.cons; focus (repeat (first | exact Rm.here | apply Rm.there))))) (fun w hC hm hA hL hap => by exact crash_k gd gw gm D hok hcl a len cap xs hxl hbr hlc w (slch hs hC (by intro hp9; exact hsx (by omega))) (fun hp9 g o hgo hmem => hsx hp9 g o hgo (List.mem_append_left _ hmem)) hA) (fun g hg => .inl (List.mem_append_left _ (by rw [feetD] at hg; exact hg))) (fun _ => by rfl) ?_; intro _ m5 _ _ hm5; refine l_nil ?_) | (refine c_region (id := 13) ?_; refine sq qm ?_; refine sq qf ?_; refine sq ql ?_; refine se ?_; refine e_callZ (RL b ⟨rows, fz, go⟩) (fun z : List Row => (DskL gd gw gm (D.crash xs) ++ [.blk w.heap.size (.cells #[.int .u8 kind, .int .i64 II, .int .u8 X8, .slice a len cap] 52 (0, 0))]) ++ RL b (⟨z, -1, false⟩)) rfl rfl (by kernel_rfl) rfl (by exact Sp.pre (DskL gd gw gm (D.crash xs) ++ [.blk w.heap.size (.cells #[.int .u8 kind, .int .i64 II, .int .u8 X8, .slice a len cap] 52 (0, 0))]) (RL b ⟨rows, fz, go⟩)) (fun w hC hm hA hL hap => by exact rcrash_c b rows fz go k0 hbk (by dsimp only at hlen; omega) hJ.w a len cap xs hxl hbr hlc w (slch hs hC (by intro hp9; exact hsx (by omega))) (fun hp9 g o hgo hmem => hsx hp9 g o hgo (List.mem_append_right _ hmem)) hA) (fun g hg => .inl (List.mem_append_right _ hg)) (fun _ => by rfl) ?_; rintro z m6 hzm6 hfrm6 hm6; refine l_nil ?_) | (refine c_region (id := 14) ?_; refine sq qa ?_; refine l_nil ?_) | refine n_then ?_ | refine c_block ?_ | refine c_skip ?_ | refine n_block ?_ | refine c_exit ?_ | refine n_then_exit ?_ | refine n_block_eq ?_ | refine n_block_ne rfl ?_ | refine c_ret ?_ | refine n_then_ret ?_ | refine n_block_ret ?_ | refine c_cond_t rfl ?_ | refine c_cond_f rfl ?_ | refine r_succ ?_ )
  refine fin2 (A := DskL gd gw gm (D.crash xs)) (B := RL b (⟨z, -1, false⟩)) ?_
  (first | apply r_ret ((D.crash xs), (⟨z, -1, false⟩)) | apply r_end ((D.crash xs), (⟨z, -1, false⟩))); exact rfl; exact rfl; exact (.tmp rfl .nil); exact rfl; exact (List.Sublist.refl _); exact (fun g hg => by rw [feet_append] at hg; rcases List.mem_append.1 hg with hg | hg; exact .inl (List.mem_append_left _ (by rw [feetD] at hg; exact hg)); exact hfrm6 g hg); exact ⟨hJ.crash xs z hzm6.1 hzm6.2.1, Nat.le_succ _⟩
set_option maxRecDepth 100000 in
set_option maxHeartbeats 4000000 in
theorem do_fuse (n k0 : Nat) (gd gw gm : Nat) (D : Dk) (b : Rb) (R : Rk) (hJ : JJ n D R) (hn : n ≤ 16000) (hbk : RbOK k0 n b) (kind II X8 : Int) (a : Option Addr) (len cap : Nat) (hkd : kind = 2) (hI : -9223372036854775808 ≤ II ∧ II ≤ 9223372036854775807) (w : World) (hD : Has (DskL gd gw gm D ++ RL b R) w) :
    CA Try.prog 22 [.pointer (some ⟨gd, 0, none⟩), .pointer (some ⟨b.g, 0, none⟩), .agg #[.int .u8 kind, .int .i64 II, .int .u8 X8, .slice a len cap]] w (Ret (fun _ : Dk × Rk => .bool true) ([gd, gw, gm] ++ feet (RL b R)) (fun z => DskL gd gw gm z.1 ++ RL b z.2) (fun z => JJ n z.1 z.2 ∧ z.1.cl ≤ D.cl + 1) w) := by
  have hlen := hJ.len
  have hok := hJ.ok
  have hpg := hJ.pg
  have hfb := hJ.fb
  rw [← hlen] at hbk
  obtain ⟨rows, fz, go⟩ := R
  have hmg := mem_g b ⟨rows, fz, go⟩
  refine enter (L := DskL gd gw gm D ++ ([.blk b.g (.cells #[.slice b.bn rows.length b.cn, .slice b.bw rows.length b.cw, .slice b.bi rows.length b.ci, .int .i64 fz, .bool go] 81 (0, 0)), .sl b.bn b.cn 33 1 ((rows.map Row.n).map encS), .sl b.bw b.cw 33 1 ((rows.map Row.w).map encS), .sl b.bi b.ci 4 1 ((rows.map Row.is).map Value.bool)] ++ rowsC rows)) (X := ([gd, gw, gm] ++ feet (RL b ⟨rows, fz, go⟩))) Try.func22 rfl Try.ntmps22 rfl rfl hD ?_
  repeat (first | refine c_seq ?_ | (refine c_region (id := 0) ?_; refine se ?_; refine eb ?_; refine sq qa ?_; refine l_nil ?_) | (refine c_region (id := 1) ?_; refine sq qf ?_; refine sq ql ?_; refine l_nil ?_) | (refine c_region (id := 2) ?_; refine sq (by first | exact deqlt | exact deqlf) ?_; refine sq qa ?_; refine l_nil ?_) | (refine c_region (id := 5) ?_; refine sq (by first | exact deqlt | exact deqlf) ?_; refine sq qa ?_; refine l_nil ?_) | (refine c_region (id := 7) ?_; refine sq (by first | exact deqlt | exact deqlf) ?_; refine sq qa ?_; refine l_nil ?_) | (refine c_region (id := 8) ?_; refine sq qm ?_; refine sq qf ?_; refine sq ql ?_; refine se ?_; refine e_call_upd rfl rfl (by kernel_rfl) rfl (fun w hC hm hL => by exact fuse_c gd gw gm D.secs.length D.fused D.gone D.fuse II w (hL.sub (by (repeat (first | exact List.nil_sublist _ | exact List.Sublist.slnil | apply List.Sublist.cons_cons | exact List.Sublist.refl _ | apply List.Sublist.cons))))) (by (repeat (first | exact Pl.here | apply Pl.there))) (.inl (by simp)) ?_; intro m5 hm5; refine l_nil ?_) | (refine c_region (id := 9) ?_; refine sq qm ?_; refine sq qf ?_; refine sq ql ?_; refine sq (by exact Qt.cast (v' := .int .i64 (max II (-1))) (congrArg (Value.int .i64) (by split <;> omega)) (q_max rfl rfl)) ?_; refine sq qn ?_; refine sq qf ?_; refine se ?_; refine es1 ?_ (hg := .inl (List.mem_append_right _ hmg)); refine l_nil ?_) | (refine c_region (id := 10) ?_; refine sq qa ?_; refine l_nil ?_) | refine n_then ?_ | refine c_block ?_ | refine c_skip ?_ | refine n_block ?_ | refine c_exit ?_ | refine n_then_exit ?_ | refine n_block_eq ?_ | refine n_block_ne rfl ?_ | refine c_ret ?_ | refine n_then_ret ?_ | refine n_block_ret ?_ | refine c_cond_t rfl ?_ | refine c_cond_f rfl ?_ | refine r_succ ?_ )
  refine fgsT (A := DskL gd gw gm (D.fus II) ++ [.blk b.g (.cells #[.slice b.bn rows.length b.cn, .slice b.bw rows.length b.cw, .slice b.bi rows.length b.ci, .int .i64 (max II (-1)), .bool go] 81 (0, 0)), .sl b.bn b.cn 33 1 ((rows.map Row.n).map encS), .sl b.bw b.cw 33 1 ((rows.map Row.w).map encS), .sl b.bi b.ci 4 1 ((rows.map Row.is).map Value.bool)]) (T := rowsC rows) (by repeat (first | exact Sp.nil | (apply Sp.cons; focus (repeat (first | exact Rm.here | apply Rm.there))))) (by (repeat (first | exact List.nil_sublist _ | exact List.Sublist.slnil | apply List.Sublist.cons_cons | exact List.Sublist.refl _ | apply List.Sublist.cons))) ?_
  (first | apply r_ret (D.fus II, ⟨rows, max II (-1), go⟩) | apply r_end (D.fus II, ⟨rows, max II (-1), go⟩)); exact rfl; exact rfl; exact (.tmp rfl .nil); exact rfl; exact (List.Sublist.refl _); exact (fun g hg => .inl (by rw [feet_append] at hg; exact hg)); exact ⟨hJ.fuse II hI.2, Nat.le_succ _⟩
end Go.Proofs.Yteopejjlhmghbaa
namespace Go.Proofs.Yteopejjlhmghbaa
open Go Go.RowKit
set_option linter.unusedVariables false
set_option linter.unusedSimpArgs false
set_option maxRecDepth 100000 in
set_option maxHeartbeats 4000000 in
theorem do_w0 (n k0 : Nat) (gd gw gm : Nat) (D : Dk) (b : Rb) (R : Rk) (hJ : JJ n D R) (hn : n ≤ 16000) (hbk : RbOK k0 n b) (kind II X8 : Int) (a : Option Addr) (len cap : Nat) (hkd : kind = 0) (xs : List Int) (hxl : xs.length = len) (hbr : ∀ x ∈ xs, 0 ≤ x ∧ x ≤ 255) (hlc : len ≤ 9223372036854775807) (w : World) (hs : SlE (Value.int .u8) w a xs) (hsx : 0 < len → ∀ g o, a = some ⟨g, o, none⟩ → g ∉ [gd, gw, gm] ++ feet (RL b R)) (hD : Has (DskL gd gw gm D ++ RL b R) w) :
    CA Try.prog 22 [.pointer (some ⟨gd, 0, none⟩), .pointer (some ⟨b.g, 0, none⟩), .agg #[.int .u8 kind, .int .i64 II, .int .u8 X8, .slice a len cap]] w (Ret (fun _ : Dk × Rk => .bool true) ([gd, gw, gm] ++ feet (RL b R)) (fun z => DskL gd gw gm z.1 ++ RL b z.2) (fun z => JJ n z.1 z.2 ∧ z.1.cl ≤ D.cl + 1) w) := by
  have hlen := hJ.len
  have hok := hJ.ok
  have hpg := hJ.pg
  have hfb := hJ.fb
  rw [← hlen] at hbk
  obtain ⟨F, hF⟩ : ∃ F, F = fulS X8 xs := ⟨_, rfl⟩
  by_cases hout : ¬ (0 ≤ II ∧ II < R.rows.length)
  · refine enter (L := DskL gd gw gm D ++ RL b R) (X := ([gd, gw, gm] ++ feet (RL b R))) Try.func22 rfl Try.ntmps22 rfl rfl hD ?_
    repeat (first | refine c_seq ?_ | (refine c_region (id := 0) ?_; refine se ?_; refine eb ?_; refine sq qa ?_; refine l_nil ?_) | (refine c_region (id := 1) ?_; refine sq qf ?_; refine sq ql ?_; refine l_nil ?_) | (refine c_region (id := 2) ?_; refine sq (by first | exact deqlt | exact deqlf) ?_; refine sq qa ?_; refine l_nil ?_) | (refine c_region (id := 3) ?_; refine sq qf ?_; refine sq ql ?_; refine sq qf ?_; refine sq ql ?_; refine se ?_; refine e_callL (enc := (Value.int .u8)) (e := 5) rfl rfl (by kernel_rfl) rfl (fun w hC hm hL => by exact full_c X8 a len cap xs hxl w (slch hs hC (by intro hp9; exact hsx (by omega)))) ?_; intro b2 cap2 z2 m2 hz2 ho2 hm2; subst hz2; rw [secL_len] at ho2; simp only [secL_len]; rw [← hF]; refine sq qa ?_; refine l_nil ?_) | (refine x_region (id := 4) none [(0, .n), (1, .n), (2, .q), (3, .n), (5, .n), (6, .n), (7, .q), (8, .n), (4, .e), (9, .e), (10, .n), (11, .n)] [.blk w.heap.size (.cells #[.int .u8 kind, .int .i64 II, .int .u8 X8, .slice a len cap] 52 (0, 0))] mixed (by kernel_rfl) (by (repeat (first | exact List.nil_sublist _ | exact List.Sublist.slnil | apply List.Sublist.cons_cons | exact List.Sublist.refl _ | apply List.Sublist.cons))) ?_; refine xn rfl qm ?_; refine xn rfl qf ?_; refine xq rfl ql ?_; refine xn rfl qm ?_; refine xn rfl qm ?_; refine xn rfl qf ?_; refine xq rfl ql ?_; refine xn rfl qm ?_; refine x_e rfl ?_; refine ecp rfl rfl (fun w hC hm hL => by exact wr_bad gd gw gm D II _ 64 _ (by omega) (by rw [hok.len]; omega) w (hL.sub (by exact .cons _ (.cons _ (List.sublist_append_left _ _))))) ?_; intro m' hm'; refine xk ?_; refine x_e rfl ?_; refine ecp rfl rfl (fun w hC hm hL => by exact rwr_bad b R II _ 64 _ (by omega) w (hL.sub (by exact .cons _ (.cons _ (List.sublist_append_right _ _))))) ?_; intro m' hm'; refine xk ?_; refine xn rfl (by first | exact deqlt | exact deqlf) ?_; refine xn rfl qa ?_; refine x_nil ?_) | refine n_then ?_ | refine c_block ?_ | refine c_skip ?_ | refine n_block ?_ | refine c_exit ?_ | refine n_then_exit ?_ | refine n_block_eq ?_ | refine n_block_ne rfl ?_ | refine c_ret ?_ | refine n_then_ret ?_ | refine n_block_ret ?_ | refine c_cond_t rfl ?_ | refine c_cond_f rfl ?_ | refine r_succ ?_ )
    (first | apply r_ret (D, R) | apply r_end (D, R)); exact rfl; exact rfl; exact (.tmp rfl .nil); exact rfl; exact (.cons _ (.cons _ (List.Sublist.refl _))); exact (fun g hg => .inl (by rw [feet_append] at hg; exact hg)); exact ⟨hJ, Nat.le_succ _⟩
  obtain ⟨P, r, Q, hrows, hpl⟩ := split_at R.rows II.toNat (by omega)
  cases hp : D.pgone with
  | true =>
    rw [hp] at hpg
    refine enter (L := DskL gd gw gm D ++ RL b R) (X := ([gd, gw, gm] ++ feet (RL b R))) Try.func22 rfl Try.ntmps22 rfl rfl hD ?_
    repeat (first | refine c_seq ?_ | (refine c_region (id := 0) ?_; refine se ?_; refine eb ?_; refine sq qa ?_; refine l_nil ?_) | (refine c_region (id := 1) ?_; refine sq qf ?_; refine sq ql ?_; refine l_nil ?_) | (refine c_region (id := 2) ?_; refine sq (by first | exact deqlt | exact deqlf) ?_; refine sq qa ?_; refine l_nil ?_) | (refine c_region (id := 3) ?_; refine sq qf ?_; refine sq ql ?_; refine sq qf ?_; refine sq ql ?_; refine se ?_; refine e_callL (enc := (Value.int .u8)) (e := 5) rfl rfl (by kernel_rfl) rfl (fun w hC hm hL => by exact full_c X8 a len cap xs hxl w (slch hs hC (by intro hp9; exact hsx (by omega)))) ?_; intro b2 cap2 z2 m2 hz2 ho2 hm2; subst hz2; rw [secL_len] at ho2; simp only [secL_len]; rw [← hF]; refine sq qa ?_; refine l_nil ?_) | (refine x_region (id := 4) none [(0, .n), (1, .n), (2, .q), (3, .n), (5, .n), (6, .n), (7, .q), (8, .n), (4, .e), (9, .e), (10, .n), (11, .n)] [.blk w.heap.size (.cells #[.int .u8 kind, .int .i64 II, .int .u8 X8, .slice a len cap] 52 (0, 0))] mixed (by kernel_rfl) (by (repeat (first | exact List.nil_sublist _ | exact List.Sublist.slnil | apply List.Sublist.cons_cons | exact List.Sublist.refl _ | apply List.Sublist.cons))) ?_; refine xn rfl qm ?_; refine xn rfl qf ?_; refine xq rfl ql ?_; refine xn rfl qm ?_; refine xn rfl qm ?_; refine xn rfl qf ?_; refine xq rfl ql ?_; refine xn rfl qm ?_; refine x_e rfl ?_; refine e_callX (DskL gd gw gm D) (fun _ : Unit => DskL gd gw gm (D.dead) ++ ([.sl b2 cap2 5 1 ((secL F 64).map (Value.int .u8)), .blk w.heap.size (.cells #[.int .u8 kind, .int .i64 II, .int .u8 X8, .slice a len cap] 52 (0, 0))] ++ RL b R)) rfl rfl (by kernel_rfl) rfl (by repeat (first | exact Sp.nil | (apply Sp.cons; focus (repeat (first | exact Rm.here | apply Rm.there))))) (fun w hC hm hA hL hap => by exact wr_lost gd gw gm D hok.hf hp II (by rw [hok.len]; omega) _ _ w hA) (fun g hg => .inl (List.mem_append_left _ (by rw [feetD] at hg; exact hg))) (fun _ => by rfl) ?_; intro _ m5 _ _ hm5; refine xk ?_; refine x_e rfl ?_; refine e_callZ (RL b R) (fun z : Unit => (DskL gd gw gm (D.dead) ++ [.sl b2 cap2 5 1 ((secL F 64).map (Value.int .u8)), .blk w.heap.size (.cells #[.int .u8 kind, .int .i64 II, .int .u8 X8, .slice a len cap] 52 (0, 0))]) ++ RL b (R.dead)) rfl rfl (by kernel_rfl) rfl (by exact Sp.pre (DskL gd gw gm (D.dead) ++ [.sl b2 cap2 5 1 ((secL F 64).map (Value.int .u8)), .blk w.heap.size (.cells #[.int .u8 kind, .int .i64 II, .int .u8 X8, .slice a len cap] 52 (0, 0))]) (RL b R)) (fun w hC hm hA hL hap => by exact rwr_lost b R hpg II (by omega) _ _ w hA) (fun g hg => .inl (List.mem_append_right _ hg)) (fun _ => by rfl) ?_; rintro ⟨⟩ m6 hzm6 hfrm6 hm6; refine xk ?_; refine xn rfl (by first | exact deqlt | exact deqlf) ?_; refine xn rfl qa ?_; refine x_nil ?_) | refine n_then ?_ | refine c_block ?_ | refine c_skip ?_ | refine n_block ?_ | refine c_exit ?_ | refine n_then_exit ?_ | refine n_block_eq ?_ | refine n_block_ne rfl ?_ | refine c_ret ?_ | refine n_then_ret ?_ | refine n_block_ret ?_ | refine c_cond_t rfl ?_ | refine c_cond_f rfl ?_ | refine r_succ ?_ )
    refine fin2 (A := DskL gd gw gm (D.dead)) (B := RL b (R.dead)) ?_
    (first | apply r_ret ((D.dead), (R.dead)) | apply r_end ((D.dead), (R.dead))); exact rfl; exact rfl; exact (.tmp rfl .nil); exact rfl; exact (List.Sublist.refl _); exact (fun g hg => by rw [feet_append] at hg; rcases List.mem_append.1 hg with hg | hg; exact .inl (List.mem_append_left _ (by rw [feetD] at hg; exact hg)); exact hfrm6 g hg); exact ⟨hJ.dead, Nat.le_succ _⟩
  | false =>
    rw [hp] at hpg
    obtain ⟨rows, fz, go⟩ := R
    dsimp only at hrows hlen hbk
    subst hrows
    obtain rfl : II = (P.length : Int) := by omega
    have hl3 : (P ++ r :: Q).length = P.length + (Q.length + 1) := by simp
    refine enter (L := DskL gd gw gm D ++ RL b ⟨P ++ r :: Q, fz, go⟩) (X := ([gd, gw, gm] ++ feet (RL b ⟨P ++ r :: Q, fz, go⟩))) Try.func22 rfl Try.ntmps22 rfl rfl hD ?_
    repeat (first | refine c_seq ?_ | (refine c_region (id := 0) ?_; refine se ?_; refine eb ?_; refine sq qa ?_; refine l_nil ?_) | (refine c_region (id := 1) ?_; refine sq qf ?_; refine sq ql ?_; refine l_nil ?_) | (refine c_region (id := 2) ?_; refine sq (by first | exact deqlt | exact deqlf) ?_; refine sq qa ?_; refine l_nil ?_) | (refine c_region (id := 3) ?_; refine sq qf ?_; refine sq ql ?_; refine sq qf ?_; refine sq ql ?_; refine se ?_; refine e_callL (enc := (Value.int .u8)) (e := 5) rfl rfl (by kernel_rfl) rfl (fun w hC hm hL => by exact full_c X8 a len cap xs hxl w (slch hs hC (by intro hp9; exact hsx (by omega)))) ?_; intro b2 cap2 z2 m2 hz2 ho2 hm2; subst hz2; rw [secL_len] at ho2; simp only [secL_len]; rw [← hF]; refine sq qa ?_; refine l_nil ?_) | (refine x_region (id := 4) none [(0, .n), (1, .n), (2, .q), (3, .n), (5, .n), (6, .n), (7, .q), (8, .n), (4, .e), (9, .e), (10, .n), (11, .n)] [.blk w.heap.size (.cells #[.int .u8 kind, .int .i64 (P.length : Int), .int .u8 X8, .slice a len cap] 52 (0, 0))] mixed (by kernel_rfl) (by (repeat (first | exact List.nil_sublist _ | exact List.Sublist.slnil | apply List.Sublist.cons_cons | exact List.Sublist.refl _ | apply List.Sublist.cons))) ?_; refine xn rfl qm ?_; refine xn rfl qf ?_; refine xq rfl ql ?_; refine xn rfl qm ?_; refine xn rfl qm ?_; refine xn rfl qf ?_; refine xq rfl ql ?_; refine xn rfl qm ?_; refine x_e rfl ?_; refine e_callX (DskL gd gw gm D) (fun _ : Unit => DskL gd gw gm (D.lit.put P.length F) ++ ([.sl b2 cap2 5 1 ((secL F 64).map (Value.int .u8)), .blk w.heap.size (.cells #[.int .u8 kind, .int .i64 (P.length : Int), .int .u8 X8, .slice a len cap] 52 (0, 0))] ++ RL b ⟨P ++ r :: Q, fz, go⟩)) rfl rfl (by kernel_rfl) rfl (by repeat (first | exact Sp.nil | (apply Sp.cons; focus (repeat (first | exact Rm.here | apply Rm.there))))) (fun w hC hm hA hL hap => by exact wr_ok gd gw gm D hok.hf hp hok.le P.length (by rw [hok.len]; omega) F _ _ w (SlE.own hL (by (repeat (first | exact List.Mem.head _ | apply List.Mem.tail))) ho2) (apart_sl (by (repeat (first | exact List.Mem.head _ | apply List.Mem.tail))) hap) hA) (fun g hg => .inl (List.mem_append_left _ (by rw [feetD] at hg; exact hg))) (fun _ => by rfl) ?_; intro _ m5 _ _ hm5; refine xk ?_; refine x_e rfl ?_; refine e_callZ (RL b ⟨P ++ r :: Q, fz, go⟩) (fun z : Nat × Nat => (DskL gd gw gm (D.lit.put P.length F) ++ [.sl b2 cap2 5 1 ((secL F 64).map (Value.int .u8)), .blk w.heap.size (.cells #[.int .u8 kind, .int .i64 (P.length : Int), .int .u8 X8, .slice a len cap] 52 (0, 0))]) ++ RL b (⟨P ++ ⟨(z.1, z.2, F), r.w, true⟩ :: Q, (Rk.lit ⟨P ++ r :: Q, fz, go⟩).fuse, go⟩)) rfl rfl (by kernel_rfl) rfl (by exact Sp.pre (DskL gd gw gm (D.lit.put P.length F) ++ [.sl b2 cap2 5 1 ((secL F 64).map (Value.int .u8)), .blk w.heap.size (.cells #[.int .u8 kind, .int .i64 (P.length : Int), .int .u8 X8, .slice a len cap] 52 (0, 0))]) (RL b ⟨P ++ r :: Q, fz, go⟩)) (fun w hC hm hA hL hap => by exact rwr_ok b P r Q fz go k0 hbk hpg hfb (by omega) F _ _ w (SlE.own hL (by (repeat (first | exact List.Mem.head _ | apply List.Mem.tail))) ho2) (apart_sl (by (repeat (first | exact List.Mem.head _ | apply List.Mem.tail))) hap) hA) (fun g hg => .inl (List.mem_append_right _ hg)) (fun _ => by rfl) ?_; rintro ⟨zg, zc⟩ m6 hzm6 hfrm6 hm6; refine xk ?_; refine xn rfl (by first | exact deqlt | exact deqlf) ?_; refine xn rfl qa ?_; refine x_nil ?_) | refine n_then ?_ | refine c_block ?_ | refine c_skip ?_ | refine n_block ?_ | refine c_exit ?_ | refine n_then_exit ?_ | refine n_block_eq ?_ | refine n_block_ne rfl ?_ | refine c_ret ?_ | refine n_then_ret ?_ | refine n_block_ret ?_ | refine c_cond_t rfl ?_ | refine c_cond_f rfl ?_ | refine r_succ ?_ )
    refine fin2 (A := DskL gd gw gm (D.lit.put P.length F)) (B := RL b (⟨P ++ ⟨(zg, zc, F), r.w, true⟩ :: Q, (Rk.lit ⟨P ++ r :: Q, fz, go⟩).fuse, go⟩)) ?_
    (first | apply r_ret ((D.lit.put P.length F), (⟨P ++ ⟨(zg, zc, F), r.w, true⟩ :: Q, (Rk.lit ⟨P ++ r :: Q, fz, go⟩).fuse, go⟩)) | apply r_end ((D.lit.put P.length F), (⟨P ++ ⟨(zg, zc, F), r.w, true⟩ :: Q, (Rk.lit ⟨P ++ r :: Q, fz, go⟩).fuse, go⟩))); exact rfl; exact rfl; exact (.tmp rfl .nil); exact rfl; exact (List.Sublist.refl _); exact (fun g hg => by rw [feet_append] at hg; rcases List.mem_append.1 hg with hg | hg; exact .inl (List.mem_append_left _ (by rw [feetD] at hg; exact hg)); exact hfrm6 g hg); exact ⟨hJ.write hp F zg zc, put_cl D.lit P.length F⟩
theorem raw64 (xs : List Int) (h : xs.length = 64) : secL (fun j => (xs[j]?).getD 0) 64 = xs := by
  apply List.ext_getElem
  · rw [secL_len, h]
  · intro q h1 h2
    simp [secL, List.getElem?_eq_getElem h2]
set_option maxRecDepth 100000 in
set_option maxHeartbeats 4000000 in
theorem do_raw (n k0 : Nat) (gd gw gm : Nat) (D : Dk) (b : Rb) (R : Rk) (hJ : JJ n D R) (hn : n ≤ 16000) (hbk : RbOK k0 n b) (kind II X8 : Int) (a : Option Addr) (len cap : Nat) (hkd : 3 < kind ∧ kind ≤ 255) (xs : List Int) (hxl : xs.length = len) (hbr : ∀ x ∈ xs, 0 ≤ x ∧ x ≤ 255) (hlc : len ≤ 9223372036854775807) (w : World) (hs : SlE (Value.int .u8) w a xs) (hsx : 0 < len → ∀ g o, a = some ⟨g, o, none⟩ → g ∉ [gd, gw, gm] ++ feet (RL b R)) (hD : Has (DskL gd gw gm D ++ RL b R) w) :
    CA Try.prog 22 [.pointer (some ⟨gd, 0, none⟩), .pointer (some ⟨b.g, 0, none⟩), .agg #[.int .u8 kind, .int .i64 II, .int .u8 X8, .slice a len cap]] w (Ret (fun _ : Dk × Rk => .bool true) ([gd, gw, gm] ++ feet (RL b R)) (fun z => DskL gd gw gm z.1 ++ RL b z.2) (fun z => JJ n z.1 z.2 ∧ z.1.cl ≤ D.cl + 1) w) := by
  have hlen := hJ.len
  have hok := hJ.ok
  have hpg := hJ.pg
  have hfb := hJ.fb
  rw [← hlen] at hbk
  by_cases hout : ¬ (0 ≤ II ∧ II < R.rows.length) ∨ len ≠ 64
  · refine enter (L := DskL gd gw gm D ++ RL b R) (X := ([gd, gw, gm] ++ feet (RL b R))) Try.func22 rfl Try.ntmps22 rfl rfl hD ?_
    repeat (first | refine c_seq ?_ | (refine c_region (id := 0) ?_; refine se ?_; refine eb ?_; refine sq qa ?_; refine l_nil ?_) | (refine c_region (id := 1) ?_; refine sq qf ?_; refine sq ql ?_; refine l_nil ?_) | (refine c_region (id := 2) ?_; refine sq (by first | exact deqlt | exact deqlf) ?_; refine sq qa ?_; refine l_nil ?_) | (refine c_region (id := 5) ?_; refine sq (by first | exact deqlt | exact deqlf) ?_; refine sq qa ?_; refine l_nil ?_) | (refine c_region (id := 7) ?_; refine sq (by first | exact deqlt | exact deqlf) ?_; refine sq qa ?_; refine l_nil ?_) | (refine c_region (id := 11) ?_; refine sq (by first | exact deqlt | exact deqlf) ?_; refine sq qa ?_; refine l_nil ?_) | (refine x_region (id := 15) none [(0, .n), (1, .n), (2, .q), (3, .n), (4, .q), (6, .n), (7, .n), (8, .q), (9, .n), (10, .q), (5, .e), (11, .e), (12, .n), (13, .n)] [.blk w.heap.size (.cells #[.int .u8 kind, .int .i64 II, .int .u8 X8, .slice a len cap] 52 (0, 0))] mixed (by kernel_rfl) (by (repeat (first | exact List.nil_sublist _ | exact List.Sublist.slnil | apply List.Sublist.cons_cons | exact List.Sublist.refl _ | apply List.Sublist.cons))) ?_; refine xn rfl qm ?_; refine xn rfl qf ?_; refine xq rfl ql ?_; refine xn rfl qf ?_; refine xq rfl ql ?_; refine xn rfl qm ?_; refine xn rfl qf ?_; refine xq rfl ql ?_; refine xn rfl qf ?_; refine xq rfl ql ?_; refine x_e rfl ?_; refine ecp rfl rfl (fun w hC hm hL => by exact wr_bad gd gw gm D II _ len _ (by omega) (by rw [hok.len]; omega) w (hL.sub (by exact .cons _ (List.sublist_append_left _ _)))) ?_; intro m' hm'; refine xk ?_; refine x_e rfl ?_; refine ecp rfl rfl (fun w hC hm hL => by exact rwr_bad b R II _ len _ (by omega) w (hL.sub (by exact .cons _ (List.sublist_append_right _ _)))) ?_; intro m' hm'; refine xk ?_; refine xn rfl (by first | exact deqlt | exact deqlf) ?_; refine xn rfl qa ?_; refine x_nil ?_) | refine n_then ?_ | refine c_block ?_ | refine c_skip ?_ | refine n_block ?_ | refine c_exit ?_ | refine n_then_exit ?_ | refine n_block_eq ?_ | refine n_block_ne rfl ?_ | refine c_ret ?_ | refine n_then_ret ?_ | refine n_block_ret ?_ | refine c_cond_t rfl ?_ | refine c_cond_f rfl ?_ | refine r_succ ?_ )
    (first | apply r_ret (D, R) | apply r_end (D, R)); exact rfl; exact rfl; exact (.tmp rfl .nil); exact rfl; exact (.cons _ (List.Sublist.refl _)); exact (fun g hg => .inl (by rw [feet_append] at hg; exact hg)); exact ⟨hJ, Nat.le_succ _⟩
  have h64 : len = 64 := by omega
  subst h64
  obtain ⟨F, hF⟩ : ∃ F : Nat → Int, F = fun j => (xs[j]?).getD 0 := ⟨_, rfl⟩
  have hraw : secL F 64 = xs := by rw [hF]; exact raw64 xs hxl
  obtain ⟨P, r, Q, hrows, hpl⟩ := split_at R.rows II.toNat (by omega)
  cases hp : D.pgone with
  | true =>
    rw [hp] at hpg
    refine enter (L := DskL gd gw gm D ++ RL b R) (X := ([gd, gw, gm] ++ feet (RL b R))) Try.func22 rfl Try.ntmps22 rfl rfl hD ?_
    repeat (first | refine c_seq ?_ | (refine c_region (id := 0) ?_; refine se ?_; refine eb ?_; refine sq qa ?_; refine l_nil ?_) | (refine c_region (id := 1) ?_; refine sq qf ?_; refine sq ql ?_; refine l_nil ?_) | (refine c_region (id := 2) ?_; refine sq (by first | exact deqlt | exact deqlf) ?_; refine sq qa ?_; refine l_nil ?_) | (refine c_region (id := 5) ?_; refine sq (by first | exact deqlt | exact deqlf) ?_; refine sq qa ?_; refine l_nil ?_) | (refine c_region (id := 7) ?_; refine sq (by first | exact deqlt | exact deqlf) ?_; refine sq qa ?_; refine l_nil ?_) | (refine c_region (id := 11) ?_; refine sq (by first | exact deqlt | exact deqlf) ?_; refine sq qa ?_; refine l_nil ?_) | (refine x_region (id := 15) none [(0, .n), (1, .n), (2, .q), (3, .n), (4, .q), (6, .n), (7, .n), (8, .q), (9, .n), (10, .q), (5, .e), (11, .e), (12, .n), (13, .n)] [.blk w.heap.size (.cells #[.int .u8 kind, .int .i64 II, .int .u8 X8, .slice a 64 cap] 52 (0, 0))] mixed (by kernel_rfl) (by (repeat (first | exact List.nil_sublist _ | exact List.Sublist.slnil | apply List.Sublist.cons_cons | exact List.Sublist.refl _ | apply List.Sublist.cons))) ?_; refine xn rfl qm ?_; refine xn rfl qf ?_; refine xq rfl ql ?_; refine xn rfl qf ?_; refine xq rfl ql ?_; refine xn rfl qm ?_; refine xn rfl qf ?_; refine xq rfl ql ?_; refine xn rfl qf ?_; refine xq rfl ql ?_; refine x_e rfl ?_; refine e_callX (DskL gd gw gm D) (fun _ : Unit => DskL gd gw gm (D.dead) ++ ([.blk w.heap.size (.cells #[.int .u8 kind, .int .i64 II, .int .u8 X8, .slice a 64 cap] 52 (0, 0))] ++ RL b R)) rfl rfl (by kernel_rfl) rfl (by repeat (first | exact Sp.nil | (apply Sp.cons; focus (repeat (first | exact Rm.here | apply Rm.there))))) (fun w hC hm hA hL hap => by exact wr_lost gd gw gm D hok.hf hp II (by rw [hok.len]; omega) _ _ w hA) (fun g hg => .inl (List.mem_append_left _ (by rw [feetD] at hg; exact hg))) (fun _ => by rfl) ?_; intro _ m5 _ _ hm5; refine xk ?_; refine x_e rfl ?_; refine e_callZ (RL b R) (fun z : Unit => (DskL gd gw gm (D.dead) ++ [.blk w.heap.size (.cells #[.int .u8 kind, .int .i64 II, .int .u8 X8, .slice a 64 cap] 52 (0, 0))]) ++ RL b (R.dead)) rfl rfl (by kernel_rfl) rfl (by exact Sp.pre (DskL gd gw gm (D.dead) ++ [.blk w.heap.size (.cells #[.int .u8 kind, .int .i64 II, .int .u8 X8, .slice a 64 cap] 52 (0, 0))]) (RL b R)) (fun w hC hm hA hL hap => by exact rwr_lost b R hpg II (by omega) _ _ w hA) (fun g hg => .inl (List.mem_append_right _ hg)) (fun _ => by rfl) ?_; rintro ⟨⟩ m6 hzm6 hfrm6 hm6; refine xk ?_; refine xn rfl (by first | exact deqlt | exact deqlf) ?_; refine xn rfl qa ?_; refine x_nil ?_) | refine n_then ?_ | refine c_block ?_ | refine c_skip ?_ | refine n_block ?_ | refine c_exit ?_ | refine n_then_exit ?_ | refine n_block_eq ?_ | refine n_block_ne rfl ?_ | refine c_ret ?_ | refine n_then_ret ?_ | refine n_block_ret ?_ | refine c_cond_t rfl ?_ | refine c_cond_f rfl ?_ | refine r_succ ?_ )
    refine fin2 (A := DskL gd gw gm (D.dead)) (B := RL b (R.dead)) ?_
    (first | apply r_ret ((D.dead), (R.dead)) | apply r_end ((D.dead), (R.dead))); exact rfl; exact rfl; exact (.tmp rfl .nil); exact rfl; exact (List.Sublist.refl _); exact (fun g hg => by rw [feet_append] at hg; rcases List.mem_append.1 hg with hg | hg; exact .inl (List.mem_append_left _ (by rw [feetD] at hg; exact hg)); exact hfrm6 g hg); exact ⟨hJ.dead, Nat.le_succ _⟩
  | false =>
    rw [hp] at hpg
    obtain ⟨rows, fz, go⟩ := R
    dsimp only at hrows hlen hbk
    subst hrows
    obtain rfl : II = (P.length : Int) := by omega
    have hl3 : (P ++ r :: Q).length = P.length + (Q.length + 1) := by simp
    refine enter (L := DskL gd gw gm D ++ RL b ⟨P ++ r :: Q, fz, go⟩) (X := ([gd, gw, gm] ++ feet (RL b ⟨P ++ r :: Q, fz, go⟩))) Try.func22 rfl Try.ntmps22 rfl rfl hD ?_
    repeat (first | refine c_seq ?_ | (refine c_region (id := 0) ?_; refine se ?_; refine eb ?_; refine sq qa ?_; refine l_nil ?_) | (refine c_region (id := 1) ?_; refine sq qf ?_; refine sq ql ?_; refine l_nil ?_) | (refine c_region (id := 2) ?_; refine sq (by first | exact deqlt | exact deqlf) ?_; refine sq qa ?_; refine l_nil ?_) | (refine c_region (id := 5) ?_; refine sq (by first | exact deqlt | exact deqlf) ?_; refine sq qa ?_; refine l_nil ?_) | (refine c_region (id := 7) ?_; refine sq (by first | exact deqlt | exact deqlf) ?_; refine sq qa ?_; refine l_nil ?_) | (refine c_region (id := 11) ?_; refine sq (by first | exact deqlt | exact deqlf) ?_; refine sq qa ?_; refine l_nil ?_) | (refine x_region (id := 15) none [(0, .n), (1, .n), (2, .q), (3, .n), (4, .q), (6, .n), (7, .n), (8, .q), (9, .n), (10, .q), (5, .e), (11, .e), (12, .n), (13, .n)] [.blk w.heap.size (.cells #[.int .u8 kind, .int .i64 (P.length : Int), .int .u8 X8, .slice a 64 cap] 52 (0, 0))] mixed (by kernel_rfl) (by (repeat (first | exact List.nil_sublist _ | exact List.Sublist.slnil | apply List.Sublist.cons_cons | exact List.Sublist.refl _ | apply List.Sublist.cons))) ?_; refine xn rfl qm ?_; refine xn rfl qf ?_; refine xq rfl ql ?_; refine xn rfl qf ?_; refine xq rfl ql ?_; refine xn rfl qm ?_; refine xn rfl qf ?_; refine xq rfl ql ?_; refine xn rfl qf ?_; refine xq rfl ql ?_; refine x_e rfl ?_; refine e_callX (DskL gd gw gm D) (fun _ : Unit => DskL gd gw gm (D.lit.put P.length F) ++ ([.blk w.heap.size (.cells #[.int .u8 kind, .int .i64 (P.length : Int), .int .u8 X8, .slice a 64 cap] 52 (0, 0))] ++ RL b ⟨P ++ r :: Q, fz, go⟩)) rfl rfl (by kernel_rfl) rfl (by repeat (first | exact Sp.nil | (apply Sp.cons; focus (repeat (first | exact Rm.here | apply Rm.there))))) (fun w hC hm hA hL hap => by exact wr_ok gd gw gm D hok.hf hp hok.le P.length (by rw [hok.len]; omega) F _ _ w (by rw [hraw]; exact (slch hs hC (by intro hp9; exact hsx (by omega)))) (fun g o hgo hmem => hsx (by omega) g o hgo (List.mem_append_left _ hmem)) hA) (fun g hg => .inl (List.mem_append_left _ (by rw [feetD] at hg; exact hg))) (fun _ => by rfl) ?_; intro _ m5 _ _ hm5; refine xk ?_; refine x_e rfl ?_; refine e_callZ (RL b ⟨P ++ r :: Q, fz, go⟩) (fun z : Nat × Nat => (DskL gd gw gm (D.lit.put P.length F) ++ [.blk w.heap.size (.cells #[.int .u8 kind, .int .i64 (P.length : Int), .int .u8 X8, .slice a 64 cap] 52 (0, 0))]) ++ RL b (⟨P ++ ⟨(z.1, z.2, F), r.w, true⟩ :: Q, (Rk.lit ⟨P ++ r :: Q, fz, go⟩).fuse, go⟩)) rfl rfl (by kernel_rfl) rfl (by exact Sp.pre (DskL gd gw gm (D.lit.put P.length F) ++ [.blk w.heap.size (.cells #[.int .u8 kind, .int .i64 (P.length : Int), .int .u8 X8, .slice a 64 cap] 52 (0, 0))]) (RL b ⟨P ++ r :: Q, fz, go⟩)) (fun w hC hm hA hL hap => by exact rwr_ok b P r Q fz go k0 hbk hpg hfb (by omega) F _ _ w (by rw [hraw]; exact (slch hs hC (by intro hp9; exact hsx (by omega)))) (fun g o hgo hmem => hsx (by omega) g o hgo (List.mem_append_right _ hmem)) hA) (fun g hg => .inl (List.mem_append_right _ hg)) (fun _ => by rfl) ?_; rintro ⟨zg, zc⟩ m6 hzm6 hfrm6 hm6; refine xk ?_; refine xn rfl (by first | exact deqlt | exact deqlf) ?_; refine xn rfl qa ?_; refine x_nil ?_) | refine n_then ?_ | refine c_block ?_ | refine c_skip ?_ | refine n_block ?_ | refine c_exit ?_ | refine n_then_exit ?_ | refine n_block_eq ?_ | refine n_block_ne rfl ?_ | refine c_ret ?_ | refine n_then_ret ?_ | refine n_block_ret ?_ | refine c_cond_t rfl ?_ | refine c_cond_f rfl ?_ | refine r_succ ?_ )
    refine fin2 (A := DskL gd gw gm (D.lit.put P.length F)) (B := RL b (⟨P ++ ⟨(zg, zc, F), r.w, true⟩ :: Q, (Rk.lit ⟨P ++ r :: Q, fz, go⟩).fuse, go⟩)) ?_
    (first | apply r_ret ((D.lit.put P.length F), (⟨P ++ ⟨(zg, zc, F), r.w, true⟩ :: Q, (Rk.lit ⟨P ++ r :: Q, fz, go⟩).fuse, go⟩)) | apply r_end ((D.lit.put P.length F), (⟨P ++ ⟨(zg, zc, F), r.w, true⟩ :: Q, (Rk.lit ⟨P ++ r :: Q, fz, go⟩).fuse, go⟩))); exact rfl; exact rfl; exact (.tmp rfl .nil); exact rfl; exact (List.Sublist.refl _); exact (fun g hg => by rw [feet_append] at hg; rcases List.mem_append.1 hg with hg | hg; exact .inl (List.mem_append_left _ (by rw [feetD] at hg; exact hg)); exact hfrm6 g hg); exact ⟨hJ.write hp F zg zc, put_cl D.lit P.length F⟩
end Go.Proofs.Yteopejjlhmghbaa
namespace Go.Proofs.Yteopejjlhmghbaa
open Go Go.RowKit
set_option linter.unusedVariables false
set_option linter.unusedSimpArgs false
structure OpI where
  kd : Int
  i : Int
  x : Int
  a : Option Addr
  len : Nat
  cap : Nat
  xs : List Int
def OpI.enc (p : OpI) : List Value := [.int .u8 p.kd, .int .i64 p.i, .int .u8 p.x, .slice p.a p.len p.cap]
theorem OpI.enc_len (p : OpI) : p.enc.length = 4 := rfl
structure OpI.Ok (w : World) (p : OpI) : Prop where
  s : SlE (Value.int .u8) w p.a p.xs
  l : p.xs.length = p.len
  c : p.len ≤ p.cap
  m : p.len ≤ 9223372036854775807
  k : 0 ≤ p.kd ∧ p.kd ≤ 255
  ib : -9223372036854775808 ≤ p.i ∧ p.i ≤ 9223372036854775807
  r : ∀ x ∈ p.xs, 0 ≤ x ∧ x ≤ 255
set_option maxRecDepth 100000 in
set_option maxHeartbeats 4000000 in
theorem op_reads {w : World} {c : List Value} (h : Reads Try.prog w 52 c) : ∃ p : OpI, c = p.enc ∧ p.Ok w := by
  obtain ⟨hl, hf⟩ := h.struct Try.underlying52
  have hc : Try.prog.cellsOf 52 = 4 := by kernel_rfl
  have h8 : Try.prog.cellsOf 5 = 1 := by kernel_rfl
  have hi : Try.prog.cellsOf 3 = 1 := by kernel_rfl
  have hs : Try.prog.cellsOf 33 = 1 := by kernel_rfl
  rw [hc] at hl
  match c, hl with
  | [c0, c1, c2, c3], _ =>
    simp only [List.mem_cons, List.not_mem_nil, or_false, forall_eq_or_imp, forall_eq, h8, hi, hs] at hf
    obtain ⟨k0, k1, k2, k3⟩ := hf
    obtain ⟨x, hx, wx⟩ := k0.int Try.underlying5
    obtain ⟨y, hy, wy⟩ := k1.int Try.underlying3
    obtain ⟨z, hz, wz⟩ := k2.int Try.underlying5
    obtain ⟨a, len, cap, xs, hb, e1, e2, e3, e4, e5⟩ := k3.bytes Try.underlying33 Try.underlying5 h8
    simp at hx hy hz hb
    subst hx hy hz hb
    simp only [maxLen] at e3
    have wy2 : -9223372036854775808 ≤ y ∧ y ≤ 9223372036854775807 := by
      simp [Lit.wf, IntKind.min, IntKind.max, IntKind.bits, IntKind.signed] at wy
      omega
    exact ⟨⟨x, y, z, a, len, cap, xs⟩, rfl, ⟨e4, e1, e2, by dsimp only; omega, bounds_u8 wx, wy2, e5⟩⟩
set_option maxRecDepth 100000 in
set_option maxHeartbeats 4000000 in
theorem dops_of {w : World} {v : Value} {r : Reach} {base : Nat} (hok : Value.okWide Try.prog w r base 46 v) (h : Reads Try.prog w 46 v.cells.toList) :
    ∃ ap cp0 ps, v = .slice ap ps.length cp0 ∧ ps.length ≤ 9223372036854775807 ∧ (∀ p ∈ ps, p.Ok w) ∧ SlF OpI.enc w ap ps := by
  obtain ⟨a, len, cap, rfl⟩ := WideShapes.okWide_slice Try.underlying46 hok
  have h' : Reads Try.prog w 46 [.slice a len cap] := h
  obtain ⟨ps, h1, h2, h3, h4, h5⟩ := h'.rows Try.underlying46 (sz := 4) (by kernel_rfl) (by omega) OpI.enc (fun p => p.Ok w) (fun c hc => op_reads hc)
  subst h1
  exact ⟨a, cap, ps, rfl, by simp only [maxLen] at h3; omega, h5, h4⟩
def smo : List OpI → Nat
  | [] => 0
  | p :: ps => min p.len 3000 + smo ps
theorem smo_snoc (ps : List OpI) (p : OpI) : smo (ps ++ [p]) = smo ps + min p.len 3000 := by
  induction ps with
  | nil => simp [smo]
  | cons q ps ih => simp only [List.cons_append, smo, ih]; omega
theorem smo_take {ps : List OpI} {i : Nat} {p : OpI} (h : ps[i]? = some p) : smo (ps.take (i + 1)) = smo (ps.take i) + min p.len 3000 := by
  rw [List.take_add_one, h]; exact smo_snoc _ _
theorem smo_le (ps : List OpI) : smo ps ≤ 3000 * ps.length := by
  induction ps with
  | nil => simp [smo]
  | cons p ps ih => simp only [smo, List.length_cons]; omega
set_option maxRecDepth 100000 in
set_option maxHeartbeats 4000000 in
theorem few_c (ps : List OpI) (ap : Option Addr) (cp0 : Nat) (w : World) (hbig : ps.length ≤ 9223372036854775807) (hps : ∀ p ∈ ps, p.Ok w) (hO : SlF OpI.enc w ap ps) :
    CA Try.prog 20 [.slice ap ps.length cp0] w (RV (.bool (decide (ps.length ≤ 60 ∧ smo (ps.take 100) ≤ 5000))) w) := by
  refine enter (L := []) (X := []) Try.func20 rfl Try.ntmps20 rfl rfl (Has.nil _) ?_
  repeat (first | refine c_seq ?_ | (refine c_region (id := 0) ?_; refine sq qa ?_; refine l_nil ?_) | (refine c_region (id := 1) ?_; refine sq qa ?_; refine l_nil ?_) | (refine c_region (id := 2) ?_; refine sq qa ?_; refine l_nil ?_) | refine n_then ?_ | refine c_block ?_ | refine c_skip ?_ | refine n_block ?_ | refine c_exit ?_ | refine n_then_exit ?_ | refine n_block_eq ?_ | refine n_block_ne rfl ?_ | refine c_ret ?_ | refine n_then_ret ?_ | refine n_block_ret ?_ | refine c_cond_t rfl ?_ | refine c_cond_f rfl ?_ | refine r_succ ?_ )
  refine c_loop (γ := Nat) (fun z => [(4, .int .i64 ((z : Nat) : Int)), (3, .int .i64 ((smo (ps.take z) : Nat) : Int)), (0, .slice ap ps.length cp0)]) (fun _ => w.heap.size) (fun _ => []) (fun z => z ≤ ps.length ∧ z ≤ 100) (fun z => ps.length - z) 0 (by omega) ⟨rfl, rfl, rfl, trivial⟩ rfl (by (repeat (first | exact List.nil_sublist _ | exact List.Sublist.slnil | apply List.Sublist.cons_cons | exact List.Sublist.refl _ | apply List.Sublist.cons))) ?_
  intro i hi
  have hi' : i ≤ ps.length ∧ i ≤ 100 := hi
  obtain ⟨hi1, hi2⟩ := hi'
  by_cases h1 : i < ps.length
  · by_cases h2 : i < 100
    · obtain ⟨p, hpi⟩ : ∃ p, ps[i]? = some p := ⟨_, List.getElem?_eq_getElem h1⟩
      have hpl := (hps p (List.mem_of_getElem? hpi)).m
      obtain ⟨g, o, rfl, hOk⟩ := hO.get h1
      have hz : nth (ps.flatMap OpI.enc) (i * 4 + 3) = some (.slice p.a p.len p.cap) := by rw [flat_nth OpI.enc_len hpi (by omega)]; rfl
      have hsn := smo_take hpi
      have hsl := smo_le (ps.take i)
      have htl : (ps.take i).length ≤ i := List.length_take_le _ _
      obtain ⟨s, hs⟩ : ∃ s, s = smo (ps.take i) := ⟨_, rfl⟩
      rw [← hs] at hsn hsl ⊢
      repeat (first | refine c_seq ?_ | (refine c_region (id := 3) ?_; refine sq qm ?_; refine sq qm ?_; refine sq qls ?_; refine sq (by first | exact dlsst | exact dlssf) ?_; refine sq qm ?_; (first | refine sk ?_ | refine skv ?_ | (refine st_want rfl rfl ?_; refine sq qm ?_)); (first | refine sk ?_ | refine skv ?_ | (refine st_want rfl rfl ?_; refine sq (by first | exact dlsst | exact dlssf) ?_)); refine sq (by first | exact qpt | exact qpf) ?_; refine l_nil ?_) | (refine c_region (id := 4) ?_; refine sq qm ?_; refine sq qadd64 ?_; refine sq qa ?_; refine l_nil ?_) | (refine c_region (id := 5) ?_; refine sq qm ?_; refine sq qm ?_; refine sq qm ?_; refine sq (by exact qis (o' := o + i * 4) (ho := by omega)) ?_; refine sq qf ?_; refine sq (by exact q_load rfl (by have h9 := Rd.oldn (X := []) (L := []) hOk hz (by simp); rw [← Nat.add_assoc] at h9; exact h9)) ?_; refine sq qls ?_; refine sq (by exact Qt.cast (v' := .int .i64 ((min p.len 3000 : Nat) : Int)) (congrArg (Value.int .i64) (by split <;> omega)) (q_min rfl rfl)) ?_; refine sq (by exact Qt.cast (v' := .int .i64 ((s + min p.len 3000 : Nat) : Int)) (congrArg (Value.int .i64) (by omega)) (q_add64 rfl rfl ⟨by omega, by omega⟩ rfl)) ?_; refine sq qa ?_; refine l_nil ?_) | refine n_then ?_ | refine c_block ?_ | refine c_skip ?_ | refine n_block ?_ | refine c_exit ?_ | refine n_then_exit ?_ | refine n_block_eq ?_ | refine n_block_ne rfl ?_ | refine c_ret ?_ | refine n_then_ret ?_ | refine n_block_ret ?_ | refine c_cond_t rfl ?_ | refine c_cond_f rfl ?_ | refine r_succ ?_ )
      refine c_round (γ := Nat) (i + 1) ?_ ?_ ?_ ?_ ?_
      · show i + 1 ≤ ps.length ∧ i + 1 ≤ 100; omega
      · show ps.length - (i + 1) < ps.length - i; omega
      · rw [hsn]; exact ⟨rfl, rfl, rfl, trivial⟩
      · rfl
      · exact (by (repeat (first | exact List.nil_sublist _ | exact List.Sublist.slnil | apply List.Sublist.cons_cons | exact List.Sublist.refl _ | apply List.Sublist.cons)))
    · obtain rfl : i = 100 := by omega
      repeat (first | refine c_seq ?_ | (refine c_region (id := 3) ?_; refine sq qm ?_; refine sq qm ?_; refine sq qls ?_; refine sq (by first | exact dlsst | exact dlssf) ?_; refine sq qm ?_; (first | refine sk ?_ | refine skv ?_ | (refine st_want rfl rfl ?_; refine sq qm ?_)); (first | refine sk ?_ | refine skv ?_ | (refine st_want rfl rfl ?_; refine sq (by first | exact dlsst | exact dlssf) ?_)); refine sq (by first | exact qpt | exact qpf) ?_; refine l_nil ?_) | refine n_then ?_ | refine c_block ?_ | refine c_skip ?_ | refine n_block ?_ | refine c_exit ?_ | refine n_then_exit ?_ | refine n_block_eq ?_ | refine n_block_ne rfl ?_ | refine c_ret ?_ | refine n_then_ret ?_ | refine n_block_ret ?_ | refine c_cond_t rfl ?_ | refine c_cond_f rfl ?_ | refine r_succ ?_ )
      have hd : decide (ps.length ≤ 60 ∧ smo (ps.take 100) ≤ 5000) = false := by rw [decide_eq_false_iff_not]; omega
      rw [hd]
      repeat (first | refine c_seq ?_ | (refine c_region (id := 6) ?_; refine sq qm ?_; refine sq qls ?_; refine sq (by first | exact dleqt | exact dleqf) ?_; refine sq qm ?_; (first | refine sk ?_ | refine skv ?_ | (refine st_want rfl rfl ?_; refine sq qm ?_)); (first | refine sk ?_ | refine skv ?_ | (refine st_want rfl rfl ?_; refine sq (by first | exact dleqt | exact dleqf) ?_)); refine sq (by first | exact qpt | exact qpf) ?_; refine sq qa ?_; refine l_nil ?_) | refine n_then ?_ | refine c_block ?_ | refine c_skip ?_ | refine n_block ?_ | refine c_exit ?_ | refine n_then_exit ?_ | refine n_block_eq ?_ | refine n_block_ne rfl ?_ | refine c_ret ?_ | refine n_then_ret ?_ | refine n_block_ret ?_ | refine c_cond_t rfl ?_ | refine c_cond_f rfl ?_ | refine r_succ ?_ )
      (first | apply r_ret () | apply r_end ()); exact rfl; exact rfl; exact (.tmp rfl .nil); exact rfl; exact (List.nil_sublist _); exact new_nil; exact trivial
  · obtain rfl : i = ps.length := by omega
    repeat (first | refine c_seq ?_ | (refine c_region (id := 3) ?_; refine sq qm ?_; refine sq qm ?_; refine sq qls ?_; refine sq (by first | exact dlsst | exact dlssf) ?_; refine sq qm ?_; (first | refine sk ?_ | refine skv ?_ | (refine st_want rfl rfl ?_; refine sq qm ?_)); (first | refine sk ?_ | refine skv ?_ | (refine st_want rfl rfl ?_; refine sq (by first | exact dlsst | exact dlssf) ?_)); refine sq (by first | exact qpt | exact qpf) ?_; refine l_nil ?_) | refine n_then ?_ | refine c_block ?_ | refine c_skip ?_ | refine n_block ?_ | refine c_exit ?_ | refine n_then_exit ?_ | refine n_block_eq ?_ | refine n_block_ne rfl ?_ | refine c_ret ?_ | refine n_then_ret ?_ | refine n_block_ret ?_ | refine c_cond_t rfl ?_ | refine c_cond_f rfl ?_ | refine r_succ ?_ )
    have htk : ps.take 100 = ps := List.take_of_length_le (by omega)
    rw [htk]
    rw [List.take_length]
    by_cases h8 : ps.length ≤ 60
    · by_cases h25 : smo ps ≤ 5000
      · rw [decide_eq_true (show ps.length ≤ 60 ∧ smo ps ≤ 5000 from ⟨h8, h25⟩)]
        repeat (first | refine c_seq ?_ | (refine c_region (id := 6) ?_; refine sq qm ?_; refine sq qls ?_; refine sq (by first | exact dleqt | exact dleqf) ?_; refine sq qm ?_; (first | refine sk ?_ | refine skv ?_ | (refine st_want rfl rfl ?_; refine sq qm ?_)); (first | refine sk ?_ | refine skv ?_ | (refine st_want rfl rfl ?_; refine sq (by first | exact dleqt | exact dleqf) ?_)); refine sq (by first | exact qpt | exact qpf) ?_; refine sq qa ?_; refine l_nil ?_) | refine n_then ?_ | refine c_block ?_ | refine c_skip ?_ | refine n_block ?_ | refine c_exit ?_ | refine n_then_exit ?_ | refine n_block_eq ?_ | refine n_block_ne rfl ?_ | refine c_ret ?_ | refine n_then_ret ?_ | refine n_block_ret ?_ | refine c_cond_t rfl ?_ | refine c_cond_f rfl ?_ | refine r_succ ?_ )
        (first | apply r_ret () | apply r_end ()); exact rfl; exact rfl; exact (.tmp rfl .nil); exact rfl; exact (List.nil_sublist _); exact new_nil; exact trivial
      · rw [decide_eq_false (show ¬(ps.length ≤ 60 ∧ smo ps ≤ 5000) by omega)]
        repeat (first | refine c_seq ?_ | (refine c_region (id := 6) ?_; refine sq qm ?_; refine sq qls ?_; refine sq (by first | exact dleqt | exact dleqf) ?_; refine sq qm ?_; (first | refine sk ?_ | refine skv ?_ | (refine st_want rfl rfl ?_; refine sq qm ?_)); (first | refine sk ?_ | refine skv ?_ | (refine st_want rfl rfl ?_; refine sq (by first | exact dleqt | exact dleqf) ?_)); refine sq (by first | exact qpt | exact qpf) ?_; refine sq qa ?_; refine l_nil ?_) | refine n_then ?_ | refine c_block ?_ | refine c_skip ?_ | refine n_block ?_ | refine c_exit ?_ | refine n_then_exit ?_ | refine n_block_eq ?_ | refine n_block_ne rfl ?_ | refine c_ret ?_ | refine n_then_ret ?_ | refine n_block_ret ?_ | refine c_cond_t rfl ?_ | refine c_cond_f rfl ?_ | refine r_succ ?_ )
        (first | apply r_ret () | apply r_end ()); exact rfl; exact rfl; exact (.tmp rfl .nil); exact rfl; exact (List.nil_sublist _); exact new_nil; exact trivial
    · rw [decide_eq_false (show ¬(ps.length ≤ 60 ∧ smo ps ≤ 5000) by omega)]
      repeat (first | refine c_seq ?_ | (refine c_region (id := 6) ?_; refine sq qm ?_; refine sq qls ?_; refine sq (by first | exact dleqt | exact dleqf) ?_; refine sq qm ?_; (first | refine sk ?_ | refine skv ?_ | (refine st_want rfl rfl ?_; refine sq qm ?_)); (first | refine sk ?_ | refine skv ?_ | (refine st_want rfl rfl ?_; refine sq (by first | exact dleqt | exact dleqf) ?_)); refine sq (by first | exact qpt | exact qpf) ?_; refine sq qa ?_; refine l_nil ?_) | refine n_then ?_ | refine c_block ?_ | refine c_skip ?_ | refine n_block ?_ | refine c_exit ?_ | refine n_then_exit ?_ | refine n_block_eq ?_ | refine n_block_ne rfl ?_ | refine c_ret ?_ | refine n_then_ret ?_ | refine n_block_ret ?_ | refine c_cond_t rfl ?_ | refine c_cond_f rfl ?_ | refine r_succ ?_ )
      (first | apply r_ret () | apply r_end ()); exact rfl; exact rfl; exact (.tmp rfl .nil); exact rfl; exact (List.nil_sublist _); exact new_nil; exact trivial
set_option maxRecDepth 100000 in
set_option maxHeartbeats 4000000 in
theorem do_c (n k0 : Nat) (gd gw gm : Nat) (D : Dk) (b : Rb) (R : Rk) (hJ : JJ n D R) (hn : n ≤ 16000) (hbk : RbOK k0 n b) (hcl : D.cl ≤ 16384) (p : OpI) (w : World) (hp : p.Ok w) (hsx : 0 < p.len → ∀ g o, p.a = some ⟨g, o, none⟩ → g ∉ [gd, gw, gm] ++ feet (RL b R)) (hD : Has (DskL gd gw gm D ++ RL b R) w) :
    CA Try.prog 22 [.pointer (some ⟨gd, 0, none⟩), .pointer (some ⟨b.g, 0, none⟩), .agg p.enc.toArray] w (Ret (fun _ : Dk × Rk => .bool true) ([gd, gw, gm] ++ feet (RL b R)) (fun z => DskL gd gw gm z.1 ++ RL b z.2) (fun z => JJ n z.1 z.2 ∧ z.1.cl ≤ D.cl + 1) w) := by
  have hk := hp.k
  by_cases h0 : p.kd = 0
  · exact do_w0 n k0 gd gw gm D b R hJ hn hbk p.kd p.i p.x p.a p.len p.cap h0 p.xs hp.l hp.r hp.m w hp.s hsx hD
  by_cases h1 : p.kd = 1
  · exact do_sync n k0 gd gw gm D b R hJ hn hbk p.kd p.i p.x p.a p.len p.cap h1 w hD
  by_cases h2 : p.kd = 2
  · exact do_fuse n k0 gd gw gm D b R hJ hn hbk p.kd p.i p.x p.a p.len p.cap h2 hp.ib w hD
  by_cases h3 : p.kd = 3
  · exact do_crash n k0 gd gw gm D b R hJ hn hbk p.kd p.i p.x p.a p.len p.cap h3 hcl p.xs hp.l hp.r hp.m w hp.s hsx hD
  exact do_raw n k0 gd gw gm D b R hJ hn hbk p.kd p.i p.x p.a p.len p.cap (by omega) p.xs hp.l hp.r hp.m w hp.s hsx hD
end Go.Proofs.Yteopejjlhmghbaa
namespace Go.Proofs.Yteopejjlhmghbaa
open Go Go.RowKit
set_option linter.unusedVariables false
set_option linter.unusedSimpArgs false
theorem OpI.Ok.ch0 {w w' : World} {p : OpI} (h : p.Ok w) (hC : Ch [] w w') : p.Ok w' := ⟨h.s.ch0 hC, h.l, h.c, h.m, h.k, h.ib, h.r⟩
theorem rnew_k (k n : Nat) (hn : n ≤ 16384) (w : World) (hk : k ≤ w.heap.size) :
    CA Try.prog 21 [.int .i64 (n : Int)] w (Ret (fun z : Rb × List Row => .pointer (some ⟨z.1.g, 0, none⟩)) [] (fun z => RL z.1 ⟨z.2, -1, false⟩) (fun z => z.2.length = n ∧ RbOK k n z.1 ∧ ∀ r ∈ z.2, zeroRow k r) w) := by
  refine ⟨Calls.mono (rnew_c n hn w).h ?_⟩
  rintro e w' ⟨z, h1, h2, h3, h4, h5, h6, h7⟩
  exact ⟨z, h1, h2, h3, h4, h5, ⟨h6.on.mono hk, h6.ow.mono hk, h6.oi.mono hk, Nat.le_trans hk h6.og⟩, fun r hr => ⟨Nat.le_trans hk (h7 r hr).1, Nat.le_trans hk (h7 r hr).2.1, (h7 r hr).2.2⟩⟩
set_option maxRecDepth 100000 in
set_option maxHeartbeats 4000000 in
theorem plays_law (nv : Int) (hnv : 0 ≤ nv ∧ nv ≤ 255) (ps : List OpI) (ap : Option Addr) (cp0 : Nat) (hbig : ps.length ≤ 9223372036854775807) (w : World) (hps : ∀ p ∈ ps, p.Ok w) (hO : SlF OpI.enc w ap ps) :
    CA Try.prog 6 [.int .u8 nv, .slice ap ps.length cp0] w (RV (.bool true) w) := by
  obtain ⟨n0, hn0⟩ : ∃ n0 : Nat, (n0 : Int) = nv % 13 := ⟨(nv % 13).toNat, by omega⟩
  obtain ⟨fb, hfb⟩ : ∃ fb, fb = (decide (ps.length ≤ 60 ∧ smo (ps.take 100) ≤ 5000)) := ⟨_, rfl⟩
  have hfew : ∀ w', Ch [] w w' → CA Try.prog 20 [.slice ap ps.length cp0] w' (RV (.bool fb) w') := fun w' hC => by rw [hfb]; exact few_c ps ap cp0 w' hbig (fun p hp => (hps p hp).ch0 hC) (hO.ch0 hC)
  cases fb with
  | false =>
    refine enter (L := []) (X := []) Try.func6 rfl Try.ntmps6 rfl rfl (Has.nil _) ?_
    repeat (first | refine c_seq ?_ | (refine c_region (id := 0) ?_; refine sq qa ?_; refine l_nil ?_) | (refine c_region (id := 1) ?_; refine se ?_; refine ecp rfl rfl (fun w hC hm hL => awake_c w) ?_; intro m' hm'; refine sq qnt ?_; refine sq qm ?_; (first | refine sk ?_ | refine skv ?_ | (refine st_want rfl rfl ?_; refine sq qm ?_)); (first | refine sk ?_ | refine skv ?_ | (refine st_want rfl rfl ?_; refine se ?_; refine ecp rfl rfl (fun w hC hm hL => hfew w hC) ?_; intro m' hm')); (first | refine sk ?_ | refine skv ?_ | (refine st_want rfl rfl ?_; refine sq qnt ?_)); refine sq (by first | exact qpt | exact qpf) ?_; refine l_nil ?_) | (refine c_region (id := 2) ?_; refine se ?_; refine ecp rfl rfl (fun w hC hm hL => awake_c w) ?_; intro m' hm'; refine sq qa ?_; refine l_nil ?_) | refine n_then ?_ | refine c_block ?_ | refine c_skip ?_ | refine n_block ?_ | refine c_exit ?_ | refine n_then_exit ?_ | refine n_block_eq ?_ | refine n_block_ne rfl ?_ | refine c_ret ?_ | refine n_then_ret ?_ | refine n_block_ret ?_ | refine c_cond_t rfl ?_ | refine c_cond_f rfl ?_ | refine r_succ ?_ )
    (first | apply r_ret () | apply r_end ()); exact rfl; exact rfl; exact (.tmp rfl .nil); exact rfl; exact (List.nil_sublist _); exact new_nil; exact trivial
  | true =>
    have h60 : ps.length ≤ 60 := by
      have h9 := hfb.symm
      rw [decide_eq_true_iff] at h9
      exact h9.1
    refine enter (L := []) (X := []) Try.func6 rfl Try.ntmps6 rfl rfl (Has.nil _) ?_
    repeat (first | refine c_seq ?_ | (refine c_region (id := 0) ?_; refine sq qa ?_; refine l_nil ?_) | (refine c_region (id := 1) ?_; refine se ?_; refine ecp rfl rfl (fun w hC hm hL => awake_c w) ?_; intro m' hm'; refine sq qnt ?_; refine sq qm ?_; (first | refine sk ?_ | refine skv ?_ | (refine st_want rfl rfl ?_; refine sq qm ?_)); (first | refine sk ?_ | refine skv ?_ | (refine st_want rfl rfl ?_; refine se ?_; refine ecp rfl rfl (fun w hC hm hL => hfew w hC) ?_; intro m' hm')); (first | refine sk ?_ | refine skv ?_ | (refine st_want rfl rfl ?_; refine sq qnt ?_)); refine sq (by first | exact qpt | exact qpf) ?_; refine l_nil ?_) | (refine c_region (id := 3) ?_; refine sq qm ?_; refine sq (by exact Qt.cast (v' := .int .u8 ((n0 : Nat) : Int)) (congrArg (Value.int .u8) (by omega)) (q_rem rfl rfl (by omega) (by omega))) ?_; refine sq qci ?_; refine se ?_; refine ecl rfl rfl (fun w hC hm hL => by exact newd_c n0 (by omega) w) ?_; intro z1 m1 _ hn1 hm1; obtain ⟨gd1, gw1, gm1⟩ := z1; have hg1 : w.heap.size ≤ gd1 ∧ w.heap.size ≤ gw1 ∧ w.heap.size ≤ gm1 := ⟨(by have h9 := hn1 gd1 (by simp [feetD]); omega), (by have h9 := hn1 gw1 (by simp [feetD]); omega), (by have h9 := hn1 gm1 (by simp [feetD]); omega)⟩; clear hn1; dsimp only; refine sq qm ?_; refine sq (by exact Qt.cast (v' := .int .u8 ((n0 : Nat) : Int)) (congrArg (Value.int .u8) (by omega)) (q_rem rfl rfl (by omega) (by omega))) ?_; refine sq qci ?_; refine se ?_; refine ecl rfl rfl (fun w' hC hm hL => by exact rnew_k w.heap.size n0 (by omega) w' (by have := hC.size; omega)) ?_; rintro ⟨b, rows⟩ m2 ⟨hrl, hbk, hzr⟩ hn2 hm2; dsimp only at hrl hbk hzr hn2 ⊢; refine sq qa ?_; refine sq qa ?_; refine l_nil ?_) | (refine c_region (id := 4) ?_; refine sq qa ?_; refine l_nil ?_) | refine n_then ?_ | refine c_block ?_ | refine c_skip ?_ | refine n_block ?_ | refine c_exit ?_ | refine n_then_exit ?_ | refine n_block_eq ?_ | refine n_block_ne rfl ?_ | refine c_ret ?_ | refine n_then_ret ?_ | refine n_block_ret ?_ | refine c_cond_t rfl ?_ | refine c_cond_f rfl ?_ | refine r_succ ?_ )
    refine prm (L' := DskL gd1 gw1 gm1 (Dk.new n0) ++ RL b ⟨rows, -1, false⟩) List.perm_append_comm ?_
    have hJ0 := JJ.new n0 w.heap.size (by omega) rows hrl hzr
    have hfr0 : ∀ g ∈ feet (DskL gd1 gw1 gm1 (Dk.new n0) ++ RL b ⟨rows, -1, false⟩), g ∈ ([] : List Nat) ∨ w.heap.size ≤ g := by
      intro g hg
      rw [feet_append] at hg
      rcases List.mem_append.1 hg with hg | hg
      · rw [feetD] at hg; simp at hg; exact .inr (by rcases hg with h | h | h <;> omega)
      · exact .inr (by have := hn2 g hg; omega)
    refine c_loop (γ := Nat × Dk × Rk × Nat) (fun z => [(7, .int .i64 z.1), (6, .pointer (some ⟨b.g, 0, none⟩)), (5, .pointer (some ⟨gd1, 0, none⟩)), (4, .bool false), (1, .slice ap ps.length cp0)]) (fun z => z.2.2.2) (fun z => DskL gd1 gw1 gm1 z.2.1 ++ RL b z.2.2.1) (fun z => z.1 ≤ ps.length ∧ JJ n0 z.2.1 z.2.2.1 ∧ z.2.1.cl ≤ z.1 ∧ (∀ g ∈ feet (DskL gd1 gw1 gm1 z.2.1 ++ RL b z.2.2.1), g ∈ ([] : List Nat) ∨ w.heap.size ≤ g) ∧ w.heap.size ≤ z.2.2.2) (fun z => ps.length - z.1) ⟨0, Dk.new n0, ⟨rows, -1, false⟩, m2⟩ ⟨by simp, hJ0, Nat.le_refl _, hfr0, by dsimp only; omega⟩ ⟨rfl, rfl, rfl, rfl, rfl, trivial⟩ rfl (List.Sublist.refl _) ?_
    rintro ⟨i, D, R, mm⟩ ⟨hi, hJ, hcl, hfr, hmm⟩
    dsimp only at hi hJ hcl hfr hmm ⊢
    by_cases h8 : i < ps.length
    · obtain ⟨p, hpi⟩ : ∃ p, ps[i]? = some p := ⟨_, List.getElem?_eq_getElem h8⟩
      have hpo := hps p (List.mem_of_getElem? hpi)
      obtain ⟨g, o, rfl, hOk⟩ := hO.get h8
      have hOi : Old w g (o + i * 4) p.enc := by
        have h9 := (hOk.drp (i * 4)).tak 4
        rw [flat_at OpI.enc_len hpi] at h9
        exact h9
      have hfe : feet (DskL gd1 gw1 gm1 D ++ RL b R) = [gd1, gw1, gm1] ++ feet (RL b R) := by rw [feet_append]; rfl
      have hsx : 0 < p.len → ∀ g o, p.a = some ⟨g, o, none⟩ → g ∉ [gd1, gw1, gm1] ++ feet (RL b R) := by
        intro hpos g9 o9 h9 hmem
        have h7 := sl_lt hpo.s (by rw [hpo.l]; exact hpos) g9 o9 h9
        rw [← hfe] at hmem
        rcases hfr g9 hmem with h6 | h6
        · simp at h6
        · omega
      repeat (first | refine c_seq ?_ | (refine c_region (id := 5) ?_; refine sq qm ?_; refine sq qm ?_; refine sq qls ?_; refine sq (by first | exact dlsst | exact dlssf) ?_; refine l_nil ?_) | (refine c_region (id := 6) ?_; refine sq qm ?_; refine sq (by exact Qt.cast (v' := .int .i64 ((i + 1 : Nat) : Int)) (congrArg (Value.int .i64) (by omega)) (q_add64 rfl rfl ⟨by omega, by omega⟩ rfl)) ?_; refine sq qa ?_; refine l_nil ?_) | (refine c_region (id := 7) ?_; refine sq qm ?_; refine sq qm ?_; refine sq qm ?_; refine sq qm ?_; refine sq (by exact qis (o' := o + i * 4) (ho := by omega)) ?_; refine sq (by exact qlr (vs := p.enc) (by rfl) (RdN.old hOi (by simp)) (OpI.enc_len p)) ?_; refine se ?_; refine e_callX (DskL gd1 gw1 gm1 D ++ RL b R) (fun z : Dk × Rk => DskL gd1 gw1 gm1 z.1 ++ RL b z.2) rfl rfl (by kernel_rfl) rfl (by exact Sp.pre [] (DskL gd1 gw1 gm1 D ++ RL b R)) (fun w hC hm hA hL hap => by rw [hfe]; exact do_c n0 _ gd1 gw1 gm1 D b R hJ (by omega) hbk (by omega) p w (hpo.ch0 hC) hsx hA) hfr (fun z => List.append_nil _) ?_; rintro ⟨D2, R2⟩ m5 ⟨hJ2, hc2⟩ hfr5 hm5; dsimp only at hJ2 hc2 hfr5 ⊢; refine sq qnt ?_; refine sq qm ?_; (first | refine sk ?_ | refine skv ?_ | (refine st_want rfl rfl ?_; refine sq qm ?_)); (first | refine sk ?_ | refine skv ?_ | (refine st_want rfl rfl ?_; refine sq qm ?_)); (first | refine sk ?_ | refine skv ?_ | (refine st_want rfl rfl ?_; refine se ?_; refine ecp rfl rfl (fun w hC hm hL => by exact same_c n0 _ gd1 gw1 gm1 D2 b R2 hJ2 (by omega) hbk w hL) ?_; intro m' hm')); (first | refine sk ?_ | refine skv ?_ | (refine st_want rfl rfl ?_; refine sq qnt ?_)); refine sq (by first | exact qpt | exact qpf) ?_; refine l_nil ?_) | refine n_then ?_ | refine c_block ?_ | refine c_skip ?_ | refine n_block ?_ | refine c_exit ?_ | refine n_then_exit ?_ | refine n_block_eq ?_ | refine n_block_ne rfl ?_ | refine c_ret ?_ | refine n_then_ret ?_ | refine n_block_ret ?_ | refine c_cond_t rfl ?_ | refine c_cond_f rfl ?_ | refine r_succ ?_ )
      refine c_round ⟨i + 1, D2, R2, m'⟩ ⟨by dsimp only; omega, hJ2, by dsimp only; omega, hfr5, by dsimp only; omega⟩ (by dsimp only; omega) ⟨rfl, rfl, rfl, rfl, rfl, trivial⟩ (by rfl) (List.Sublist.refl _)
    · repeat (first | refine c_seq ?_ | (refine c_region (id := 5) ?_; refine sq qm ?_; refine sq qm ?_; refine sq qls ?_; refine sq (by first | exact dlsst | exact dlssf) ?_; refine l_nil ?_) | (refine c_region (id := 9) ?_; refine sq qa ?_; refine l_nil ?_) | refine n_then ?_ | refine c_block ?_ | refine c_skip ?_ | refine n_block ?_ | refine c_exit ?_ | refine n_then_exit ?_ | refine n_block_eq ?_ | refine n_block_ne rfl ?_ | refine c_ret ?_ | refine n_then_ret ?_ | refine n_block_ret ?_ | refine c_cond_t rfl ?_ | refine c_cond_f rfl ?_ | refine r_succ ?_ )
      (first | apply r_ret () | apply r_end ()); exact rfl; exact rfl; exact (.tmp rfl .nil); exact rfl; exact (List.nil_sublist _); exact new_nil; exact trivial
theorem playsWalk_ (nv : Int) (hnv : (Lit.int .u8 nv).wf = true) (ps : List OpI) (ap : Option Addr) (cp0 : Nat) (hbig : ps.length ≤ 9223372036854775807) {w : World} (hps : ∀ p ∈ ps, p.Ok w) (hO : SlF OpI.enc w ap ps) :
    Calls Try.prog 6 #[.int .u8 nv, .slice ap ps.length cp0] w fun e w' => e = .returned (.bool true) ∧ Below w.heap.size w w' :=
  below_ret (plays_law nv (bounds_u8 hnv) ps ap cp0 hbig w hps hO)
end Go.Proofs.Yteopejjlhmghbaa
namespace Go.Proofs.Yteopejjlhmghbaa.lawDiskPlays
open Go.ChangeShapes Go.WideShapes Go.ChangeAt Go.RowKit
open Go.ChangeMaps (open_string shut_string)
set_option linter.unusedVariables false
theorem own : ownKnob Try.prog.godebug = none := by kernel_rfl
theorem laidOut : laidOutB Try.prog = true := by kernel_rfl
set_option maxRecDepth 100000 in
theorem lifted (os : Os) (started : os.Started) (H : Type) (enc : TypeId × Value → H) :
    ReturnsInHanded {} Try.checked os 6 .any (Rows.diskPlaysSpec.pre6 enc Try.prog Try.f6 Rows.diskPlaysRow.domain false) (Rows.diskPlaysSpec.post enc Try.prog Try.f6 false true false false) := by
  refine returnsInHanded_of_change (C := Try.checked) own started (by kernel_rfl) Try.func6
    (ChangeSpec.witness6 (enc := enc) (C := Try.checked) false ⟨#[], #[.int .u8 0, .slice none 0 0], []⟩ 8 (by kernel_rfl) (by kernel_rfl) (by kernel_rfl) (by kernel_rfl)) ?_
  intro W base args ds gs before hval0 hW hcnd _
  have hval : ∀ (j : Nat) t v, Try.f6.params[j]? = some t → args[j]? = some v → Value.okWide Try.prog W .any base t v := hval0
  have hW' := hW
  obtain ⟨p, q, hA0, hV, rfl, hfz, hnd⟩ := hW
  have hA : DataW.TrodAll enc Try.prog W 0 (fun _ => true) true Try.f6.params.toList args.toList ds p := hA0
  rw [Try.params6] at hA hval
  obtain ⟨v0, vs0, d0, ds0, p0, q0, hargs, rfl, rfl, h0, r0⟩ := trodAll_cons hA
  obtain ⟨v1, vs1, d1, ds1, p1, q1, rfl, rfl, rfl, h1, r1⟩ := trodAll_cons r0
  obtain ⟨rfl, rfl, rfl⟩ := trodAll_nil r1
  obtain rfl : args = #[v0, v1] := by cases args; simp_all
  obtain ⟨rfl, rfl⟩ := trodVars_none hV
  have k0 := h0
  have lt0 : ∀ x ∈ p0, x.block < W.heap.size := by obtain ⟨m, hm⟩ := k0; exact DataW.trod_lt m _ _ _ hm
  have k1 := h1
  have lt1 : ∀ x ∈ p1, x.block < W.heap.size := by obtain ⟨m, hm⟩ := k1; exact DataW.trod_lt m _ _ _ hm
  obtain ⟨a0, rfl, rfl, rfl, w0⟩ := open_int Try.underlying5 (hval 0 5 v0 rfl rfl) h0
  obtain ⟨a1, c1, ps1, rfl, n1, o1, s1⟩ := dops_of (hval 1 46 v1 rfl rfl) (reads_of_trod k1)
  clear hA0 hval0
  refine (playsWalk_ a0 w0 ps1 a1 c1 n1 o1 s1).mono fun e W' ⟨he, bel⟩ => ?_
  subst he
  exact ⟨_, rfl, _, _, _, [], _, [], hW', trodAll_mk1 (shut_bool Try.underlying4 _), (trodAll_cons_mk (Below.trod laidOut (by kernel_rfl) (of_decide_eq_true (by kernel_rfl)) k0 bel lt0) (trodAll_cons_mk (Below.trod laidOut (by kernel_rfl) (of_decide_eq_true (by kernel_rfl)) k1 bel lt1) trodAll_mk0)), rfl, bel.frame _, fun h => by cases h⟩
theorem over : Rows.diskPlaysRow.holds Try.pinned (OpenSpec.ofChange Rows.diskPlaysSpec) :=
  OpenClaim.holds_of_wide 6 Try.f6 rfl rfl rfl rfl rfl rfl rfl ⟨rfl, rfl, rfl, rfl, rfl⟩ rfl rfl rfl rfl rfl (by kernel_rfl) Try.func6 (by kernel_rfl)
    (of_decide_eq_true (by kernel_rfl)) (by unfold Func.isWrapper; first | (rw [if_pos (by decide +kernel)]; kernel_rfl) | (rw [if_neg (by decide +kernel)]; exact ⟨rfl, rfl⟩))
    (fun os started H enc _ => lifted os started H enc)
/-- DiskPlays: whatever the input, the law answers true, and its arguments read afterwards as before. No condition. -/
theorem proved : Rows.DiskPlaysSaid := over
#print axioms proved
end Go.Proofs.Yteopejjlhmghbaa.lawDiskPlays
