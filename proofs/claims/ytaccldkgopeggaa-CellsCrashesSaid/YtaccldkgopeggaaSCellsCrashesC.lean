/- CellsCrashes: what it needs, part 3. -/
import Derived.Test.YtaccldkgopeggaaSCellsCrashesB
namespace Go.Proofs.Ytaccldkgopeggaa
open Go Go.RowKit
set_option linter.unusedVariables false
set_option linter.unusedSimpArgs false
instance (F : Nat → Int) : Decidable (hdS F) := by unfold hdS; infer_instance
def hdU (room p : Nat) (s : Hd) (F : Nat → Int) : Prop := hdS F ∧ (hdOf F).cnt ≤ room ∧ (hdOf F).ser % 2 = p ∧ s.ser ≤ (hdOf F).ser
instance (room p : Nat) (s : Hd) (F : Nat → Int) : Decidable (hdU room p s F) := by unfold hdU; infer_instance
def stepH (room p : Nat) (s : Hd) (F : Nat → Int) : Hd := if hdU room p s F then hdOf F else s
def stI (room : Nat) (Fs : Nat → Nat → Int) : Nat → Hd
  | 0 => hdZ
  | i + 1 => stepH room i (stI room Fs i) (Fs i)
theorem sec_old (F : Nat → Int) : (((secL F 64).map (Value.int .u8)).drop 0).take 64 = byS F 0 64 := by
  rw [List.drop_zero, List.take_of_length_le (by simp [secL_len])]
  simp [secL, byS, byI]
theorem stI_y {room : Nat} {Fs : Nat → Nat → Int} {i : Nat} (h : hdU room i (stI room Fs i) (Fs i)) : stI room Fs (i + 1) = hdOf (Fs i) := by rw [stI, stepH, if_pos h]
theorem stI_n {room : Nat} {Fs : Nat → Nat → Int} {i : Nat} (h : ¬ hdU room i (stI room Fs i) (Fs i)) : stI room Fs (i + 1) = stI room Fs i := by rw [stI, stepH, if_neg h]
set_option maxRecDepth 100000 in
set_option maxHeartbeats 4000000 in
theorem heads_c (gl gd gw gm fr room : Nat) (s : Value) (ov : Bool) (Fs : Nat → Nat → Int) (hfr : fr ≤ 16384) (hroom : room ≤ 100000000) (D : Dk) (hgo : D.gone = false) (hn6 : D.secs.length ≤ 16384) (hF : ∀ i, i < 2 → D.secs[fr + i]? = some (Fs i)) (hRB : ∀ i, i < 2 → RB (Fs i)) (w : World) (hL0 : Has (LgB gl gd fr room hdZ s ov :: DskL gd gw gm D) w) :
    CA Try.prog 29 [.pointer (some ⟨gl, 0, none⟩)] w (RU (.int .i64 0) gl (.cells (lgC gd fr room (stI room Fs 2) s ov) 65 (0, 0)) w) := by
  refine enter (L := (LgB gl gd fr room hdZ s ov :: DskL gd gw gm D)) (X := [gl]) Try.func29 rfl Try.ntmps29 rfl rfl hL0 ?_
  repeat (first | refine c_seq ?_ | (refine c_region (id := 0) ?_; refine sq qa ?_; refine l_nil ?_) | (refine c_region (id := 1) ?_; refine sq qm ?_; refine l_nil ?_) | refine n_then ?_ | refine c_block ?_ | refine c_skip ?_ | refine n_block ?_ | refine c_exit ?_ | refine n_then_exit ?_ | refine n_block_eq ?_ | refine n_block_ne rfl ?_ | refine c_ret ?_ | refine n_then_ret ?_ | refine n_block_ret ?_ | refine c_cond_t rfl ?_ | refine c_cond_f rfl ?_ | refine r_succ ?_ )
  refine c_loop (γ := Nat × Nat) (fun z => [(8, .int .i64 z.1), (0, .pointer (some ⟨gl, 0, none⟩)), (2, .int .i64 0)]) (fun z => z.2) (fun z => (LgB gl gd fr room (stI room Fs z.1) s ov :: DskL gd gw gm D)) (fun z => z.1 ≤ 2 ∧ w.heap.size ≤ z.2) (fun z => 2 - z.1) ⟨0, w.heap.size⟩ ⟨by simp, Nat.le_refl _⟩ ⟨rfl, rfl, rfl, trivial⟩ rfl (List.Sublist.refl _) ?_
  rintro ⟨i, mm⟩ ⟨hi, hmm⟩
  dsimp only at hi hmm ⊢
  by_cases hi2 : i < 2
  · have hFi := hF i hi2
    have hk := hdOf_K (hRB i hi2)
    have hse := hk.ser.1
    have hse2 := hk.ser.2
    have hcn := hk.cnt
    by_cases hS : hdS (Fs i)
    · by_cases hc : (hdOf (Fs i)).cnt ≤ room
      · by_cases hp : (hdOf (Fs i)).ser % 2 = i
        · by_cases hg : (stI room Fs i).ser ≤ (hdOf (Fs i)).ser
          · have e9 := stI_y ⟨hS, hc, hp, hg⟩
            repeat (first | refine c_seq ?_ | (refine c_region (id := 2) ?_; refine sq (by first | exact dlsst | exact dlssf) ?_; refine l_nil ?_) | (refine c_region (id := 3) ?_; refine sq qm ?_; refine sq qa ?_; refine l_nil ?_) | (refine x_region (id := 4) none [(0, .n), (1, .n), (2, .n), (3, .q), (4, .n), (5, .n), (6, .n), (7, .q), (8, .n), (9, .n), (10, .e), (11, .n), (12, .n), (13, .n), (14, .n), (15, .n)] _ mixed (by kernel_rfl) (List.Sublist.refl _) ?_; refine xn rfl qm ?_; refine xn rfl qn ?_; refine xn rfl qf ?_; refine xq rfl ql ?_; refine xn rfl qm ?_; refine xn rfl qn ?_; refine xn rfl qf ?_; refine xq rfl ql ?_; refine xn rfl qm ?_; refine xn rfl (by exact Qt.cast (v' := .int .i64 ((fr + i : Nat) : Int)) (congrArg (Value.int .i64) (by omega)) (q_add64 rfl rfl ⟨by omega, by omega⟩ rfl)) ?_; refine x_e rfl ?_; refine ecl rfl rfl (fun w hC hm hL => by exact rd_ok gd gw gm D (fr + i) (Fs i) hFi hgo hn6 w (hL.sub (by (repeat (first | exact List.nil_sublist _ | exact List.Sublist.slnil | apply List.Sublist.cons_cons | exact List.Sublist.refl _ | apply List.Sublist.cons))))) ?_; intro z4 m4 hz4 hn4 hm4; obtain ⟨b4, cap4⟩ := z4; obtain ⟨hz4a, hz4b, g4, hz4c⟩ := hz4; dsimp only at hz4a hz4b hz4c; subst hz4c; dsimp only; refine xk ?_; refine xn rfl qm ?_; refine xn rfl qe ?_; refine xn rfl qe ?_; refine xn rfl qa ?_; refine xn rfl qa ?_; refine x_nil ?_) | (refine c_region (id := 5) ?_; refine sq qm ?_; refine sq (by first | exact dneqt | exact dneqf) ?_; refine l_nil ?_) | (refine c_region (id := 7) ?_; refine sq qm ?_; refine se ?_; refine ecp rfl rfl (fun w hC hm hL => by exact headOf_y (Fs i) (hRB i hi2) hS g4 0 cap4 (by omega) w (hL.old_sl (k := 64) (o := 0) (by (repeat (first | exact List.Mem.head _ | apply List.Mem.tail))) (sec_old (Fs i)))) ?_; intro m' hm'; refine sq qm ?_; refine sq qe ?_; refine sq qe ?_; refine se ?_; refine ea ?_; refine se ?_; refine esa ?_ (hk := by rfl) (ho := by rfl) (hoff := by rfl); refine sq qa ?_; refine l_nil ?_) | (refine x_region (id := 8) none [(0, .n), (1, .n), (2, .n), (3, .q), (4, .n), (5, .n), (6, .n), (7, .q), (8, .n), (9, .n), (10, .n), (11, .n), (12, .q), (14, .n), (13, .e), (15, .n), (16, .n), (17, .n), (18, .n), (19, .q), (20, .n), (21, .n), (22, .n), (23, .n), (24, .q), (25, .n), (26, .n)] _ mixed (by kernel_rfl) (List.Sublist.refl _) ?_; refine xn rfl qm ?_; refine xn rfl qm ?_; (first | refine x_nskip rfl rfl rfl rfl ?_ | refine x_nskipv rfl rfl (by rfl) rfl ?_ | refine x_ng rfl rfl rfl (by exact qf) rfl ?_); (first | refine x_skip rfl rfl rfl rfl ?_ | refine x_skipv rfl rfl (by rfl) rfl ?_ | refine x_qg rfl rfl rfl (by exact ql) rfl ?_); (first | refine x_nskip rfl rfl rfl rfl ?_ | refine x_nskipv rfl rfl (by rfl) rfl ?_ | refine x_ng rfl rfl rfl (by exact qm) rfl ?_); (first | refine x_nskip rfl rfl rfl rfl ?_ | refine x_nskipv rfl rfl (by rfl) rfl ?_ | refine x_ng rfl rfl rfl (by exact qn) rfl ?_); (first | refine x_nskip rfl rfl rfl rfl ?_ | refine x_nskipv rfl rfl (by rfl) rfl ?_ | refine x_ng rfl rfl rfl (by exact qf) rfl ?_); (first | refine x_skip rfl rfl rfl rfl ?_ | refine x_skipv rfl rfl (by rfl) rfl ?_ | refine x_qg rfl rfl rfl (by exact ql) rfl ?_); (first | refine x_nskip rfl rfl rfl rfl ?_ | refine x_nskipv rfl rfl (by rfl) rfl ?_ | refine x_ng rfl rfl rfl (by exact qcU) rfl ?_); (first | refine x_nskip rfl rfl rfl rfl ?_ | refine x_nskipv rfl rfl (by rfl) rfl ?_ | refine x_ng rfl rfl rfl (by first | exact dleqt | exact dleqf) rfl ?_); refine xn rfl (by first | exact qpt | exact qpf) ?_; refine xn rfl qm ?_; (first | refine x_skip rfl rfl rfl rfl ?_ | refine x_skipv rfl rfl (by rfl) rfl ?_ | refine x_qg rfl rfl rfl (by exact qlb (hl := by rfl)) rfl ?_); (first | refine x_nskip rfl rfl rfl rfl ?_ | refine x_nskipv rfl rfl (by rfl) rfl ?_ | refine x_ng rfl rfl rfl (by exact qm) rfl ?_); (first | refine x_eskip (List.Sublist.refl _) rfl rfl rfl rfl ?_ | refine x_eskipv (List.Sublist.refl _) rfl rfl (by rfl) rfl ?_ | (refine x_eg rfl rfl rfl ?_; refine ecp rfl rfl (fun w hC hm hL => by exact place_c (hdOf (Fs i)) hse w) ?_; intro m' hm'; refine xk ?_)); (first | refine x_nskip rfl rfl rfl rfl ?_ | refine x_nskipv rfl rfl (by rfl) rfl ?_ | refine x_ng rfl rfl rfl (by first | exact deqlt | exact deqlf) rfl ?_); refine xn rfl (by first | exact qpt | exact qpf) ?_; refine xn rfl qm ?_; (first | refine x_nskip rfl rfl rfl rfl ?_ | refine x_nskipv rfl rfl (by rfl) rfl ?_ | refine x_ng rfl rfl rfl (by exact qf) rfl ?_); (first | refine x_skip rfl rfl rfl rfl ?_ | refine x_skipv rfl rfl (by rfl) rfl ?_ | refine x_qg rfl rfl rfl (by exact ql) rfl ?_); (first | refine x_nskip rfl rfl rfl rfl ?_ | refine x_nskipv rfl rfl (by rfl) rfl ?_ | refine x_ng rfl rfl rfl (by exact qm) rfl ?_); (first | refine x_nskip rfl rfl rfl rfl ?_ | refine x_nskipv rfl rfl (by rfl) rfl ?_ | refine x_ng rfl rfl rfl (by exact qn) rfl ?_); (first | refine x_nskip rfl rfl rfl rfl ?_ | refine x_nskipv rfl rfl (by rfl) rfl ?_ | refine x_ng rfl rfl rfl (by exact qf) rfl ?_); (first | refine x_nskip rfl rfl rfl rfl ?_ | refine x_nskipv rfl rfl (by rfl) rfl ?_ | refine x_ng rfl rfl rfl (by exact qf) rfl ?_); (first | refine x_skip rfl rfl rfl rfl ?_ | refine x_skipv rfl rfl (by rfl) rfl ?_ | refine x_qg rfl rfl rfl (by exact ql) rfl ?_); (first | refine x_nskip rfl rfl rfl rfl ?_ | refine x_nskipv rfl rfl (by rfl) rfl ?_ | refine x_ng rfl rfl rfl (by first | exact dgeqt | exact dgeqf) rfl ?_); refine xn rfl (by first | exact qpt | exact qpf) ?_; refine x_nil ?_) | (refine c_region (id := 9) ?_; refine sq qm ?_; refine sq (by exact qlb (hl := by rfl)) ?_; refine sq qn ?_; refine sq qf ?_; refine se ?_; refine e_store_row (vs := (headE (hdOf (Fs i))).toArray) rfl rfl (by rfl) (by rfl) (by rw [lg_set]; (repeat (first | exact Pl.here | apply Pl.there))) (by show 3 + 18 ≤ 23; omega) (.inl (by simp)) ?_; refine l_nil ?_) | (refine c_region (id := 10) ?_; refine sq qadd64 ?_; refine sq qm ?_; refine l_nil ?_) | refine n_then ?_ | refine c_block ?_ | refine c_skip ?_ | refine n_block ?_ | refine c_exit ?_ | refine n_then_exit ?_ | refine n_block_eq ?_ | refine n_block_ne rfl ?_ | refine c_ret ?_ | refine n_then_ret ?_ | refine n_block_ret ?_ | refine c_cond_t rfl ?_ | refine c_cond_f rfl ?_ | refine r_succ ?_ )
            refine c_round ⟨i + 1, m'⟩ ⟨by dsimp only; omega, by dsimp only; omega⟩ (by dsimp only; omega) ⟨rfl, rfl, rfl, trivial⟩ (by rfl) (by dsimp only; rw [e9]; exact (by (repeat (first | exact List.nil_sublist _ | exact List.Sublist.slnil | apply List.Sublist.cons_cons | exact List.Sublist.refl _ | apply List.Sublist.cons))))
          · have e9 := stI_n (room := room) (Fs := Fs) (i := i) (fun h => hg h.2.2.2)
            repeat (first | refine c_seq ?_ | (refine c_region (id := 2) ?_; refine sq (by first | exact dlsst | exact dlssf) ?_; refine l_nil ?_) | (refine c_region (id := 3) ?_; refine sq qm ?_; refine sq qa ?_; refine l_nil ?_) | (refine x_region (id := 4) none [(0, .n), (1, .n), (2, .n), (3, .q), (4, .n), (5, .n), (6, .n), (7, .q), (8, .n), (9, .n), (10, .e), (11, .n), (12, .n), (13, .n), (14, .n), (15, .n)] _ mixed (by kernel_rfl) (List.Sublist.refl _) ?_; refine xn rfl qm ?_; refine xn rfl qn ?_; refine xn rfl qf ?_; refine xq rfl ql ?_; refine xn rfl qm ?_; refine xn rfl qn ?_; refine xn rfl qf ?_; refine xq rfl ql ?_; refine xn rfl qm ?_; refine xn rfl (by exact Qt.cast (v' := .int .i64 ((fr + i : Nat) : Int)) (congrArg (Value.int .i64) (by omega)) (q_add64 rfl rfl ⟨by omega, by omega⟩ rfl)) ?_; refine x_e rfl ?_; refine ecl rfl rfl (fun w hC hm hL => by exact rd_ok gd gw gm D (fr + i) (Fs i) hFi hgo hn6 w (hL.sub (by (repeat (first | exact List.nil_sublist _ | exact List.Sublist.slnil | apply List.Sublist.cons_cons | exact List.Sublist.refl _ | apply List.Sublist.cons))))) ?_; intro z4 m4 hz4 hn4 hm4; obtain ⟨b4, cap4⟩ := z4; obtain ⟨hz4a, hz4b, g4, hz4c⟩ := hz4; dsimp only at hz4a hz4b hz4c; subst hz4c; dsimp only; refine xk ?_; refine xn rfl qm ?_; refine xn rfl qe ?_; refine xn rfl qe ?_; refine xn rfl qa ?_; refine xn rfl qa ?_; refine x_nil ?_) | (refine c_region (id := 5) ?_; refine sq qm ?_; refine sq (by first | exact dneqt | exact dneqf) ?_; refine l_nil ?_) | (refine c_region (id := 7) ?_; refine sq qm ?_; refine se ?_; refine ecp rfl rfl (fun w hC hm hL => by exact headOf_y (Fs i) (hRB i hi2) hS g4 0 cap4 (by omega) w (hL.old_sl (k := 64) (o := 0) (by (repeat (first | exact List.Mem.head _ | apply List.Mem.tail))) (sec_old (Fs i)))) ?_; intro m' hm'; refine sq qm ?_; refine sq qe ?_; refine sq qe ?_; refine se ?_; refine ea ?_; refine se ?_; refine esa ?_ (hk := by rfl) (ho := by rfl) (hoff := by rfl); refine sq qa ?_; refine l_nil ?_) | (refine x_region (id := 8) none [(0, .n), (1, .n), (2, .n), (3, .q), (4, .n), (5, .n), (6, .n), (7, .q), (8, .n), (9, .n), (10, .n), (11, .n), (12, .q), (14, .n), (13, .e), (15, .n), (16, .n), (17, .n), (18, .n), (19, .q), (20, .n), (21, .n), (22, .n), (23, .n), (24, .q), (25, .n), (26, .n)] _ mixed (by kernel_rfl) (List.Sublist.refl _) ?_; refine xn rfl qm ?_; refine xn rfl qm ?_; (first | refine x_nskip rfl rfl rfl rfl ?_ | refine x_nskipv rfl rfl (by rfl) rfl ?_ | refine x_ng rfl rfl rfl (by exact qf) rfl ?_); (first | refine x_skip rfl rfl rfl rfl ?_ | refine x_skipv rfl rfl (by rfl) rfl ?_ | refine x_qg rfl rfl rfl (by exact ql) rfl ?_); (first | refine x_nskip rfl rfl rfl rfl ?_ | refine x_nskipv rfl rfl (by rfl) rfl ?_ | refine x_ng rfl rfl rfl (by exact qm) rfl ?_); (first | refine x_nskip rfl rfl rfl rfl ?_ | refine x_nskipv rfl rfl (by rfl) rfl ?_ | refine x_ng rfl rfl rfl (by exact qn) rfl ?_); (first | refine x_nskip rfl rfl rfl rfl ?_ | refine x_nskipv rfl rfl (by rfl) rfl ?_ | refine x_ng rfl rfl rfl (by exact qf) rfl ?_); (first | refine x_skip rfl rfl rfl rfl ?_ | refine x_skipv rfl rfl (by rfl) rfl ?_ | refine x_qg rfl rfl rfl (by exact ql) rfl ?_); (first | refine x_nskip rfl rfl rfl rfl ?_ | refine x_nskipv rfl rfl (by rfl) rfl ?_ | refine x_ng rfl rfl rfl (by exact qcU) rfl ?_); (first | refine x_nskip rfl rfl rfl rfl ?_ | refine x_nskipv rfl rfl (by rfl) rfl ?_ | refine x_ng rfl rfl rfl (by first | exact dleqt | exact dleqf) rfl ?_); refine xn rfl (by first | exact qpt | exact qpf) ?_; refine xn rfl qm ?_; (first | refine x_skip rfl rfl rfl rfl ?_ | refine x_skipv rfl rfl (by rfl) rfl ?_ | refine x_qg rfl rfl rfl (by exact qlb (hl := by rfl)) rfl ?_); (first | refine x_nskip rfl rfl rfl rfl ?_ | refine x_nskipv rfl rfl (by rfl) rfl ?_ | refine x_ng rfl rfl rfl (by exact qm) rfl ?_); (first | refine x_eskip (List.Sublist.refl _) rfl rfl rfl rfl ?_ | refine x_eskipv (List.Sublist.refl _) rfl rfl (by rfl) rfl ?_ | (refine x_eg rfl rfl rfl ?_; refine ecp rfl rfl (fun w hC hm hL => by exact place_c (hdOf (Fs i)) hse w) ?_; intro m' hm'; refine xk ?_)); (first | refine x_nskip rfl rfl rfl rfl ?_ | refine x_nskipv rfl rfl (by rfl) rfl ?_ | refine x_ng rfl rfl rfl (by first | exact deqlt | exact deqlf) rfl ?_); refine xn rfl (by first | exact qpt | exact qpf) ?_; refine xn rfl qm ?_; (first | refine x_nskip rfl rfl rfl rfl ?_ | refine x_nskipv rfl rfl (by rfl) rfl ?_ | refine x_ng rfl rfl rfl (by exact qf) rfl ?_); (first | refine x_skip rfl rfl rfl rfl ?_ | refine x_skipv rfl rfl (by rfl) rfl ?_ | refine x_qg rfl rfl rfl (by exact ql) rfl ?_); (first | refine x_nskip rfl rfl rfl rfl ?_ | refine x_nskipv rfl rfl (by rfl) rfl ?_ | refine x_ng rfl rfl rfl (by exact qm) rfl ?_); (first | refine x_nskip rfl rfl rfl rfl ?_ | refine x_nskipv rfl rfl (by rfl) rfl ?_ | refine x_ng rfl rfl rfl (by exact qn) rfl ?_); (first | refine x_nskip rfl rfl rfl rfl ?_ | refine x_nskipv rfl rfl (by rfl) rfl ?_ | refine x_ng rfl rfl rfl (by exact qf) rfl ?_); (first | refine x_nskip rfl rfl rfl rfl ?_ | refine x_nskipv rfl rfl (by rfl) rfl ?_ | refine x_ng rfl rfl rfl (by exact qf) rfl ?_); (first | refine x_skip rfl rfl rfl rfl ?_ | refine x_skipv rfl rfl (by rfl) rfl ?_ | refine x_qg rfl rfl rfl (by exact ql) rfl ?_); (first | refine x_nskip rfl rfl rfl rfl ?_ | refine x_nskipv rfl rfl (by rfl) rfl ?_ | refine x_ng rfl rfl rfl (by first | exact dgeqt | exact dgeqf) rfl ?_); refine xn rfl (by first | exact qpt | exact qpf) ?_; refine x_nil ?_) | (refine c_region (id := 10) ?_; refine sq qadd64 ?_; refine sq qm ?_; refine l_nil ?_) | refine n_then ?_ | refine c_block ?_ | refine c_skip ?_ | refine n_block ?_ | refine c_exit ?_ | refine n_then_exit ?_ | refine n_block_eq ?_ | refine n_block_ne rfl ?_ | refine c_ret ?_ | refine n_then_ret ?_ | refine n_block_ret ?_ | refine c_cond_t rfl ?_ | refine c_cond_f rfl ?_ | refine r_succ ?_ )
            refine c_round ⟨i + 1, m'⟩ ⟨by dsimp only; omega, by dsimp only; omega⟩ (by dsimp only; omega) ⟨rfl, rfl, rfl, trivial⟩ (by rfl) (by dsimp only; rw [e9]; exact (by (repeat (first | exact List.nil_sublist _ | exact List.Sublist.slnil | apply List.Sublist.cons_cons | exact List.Sublist.refl _ | apply List.Sublist.cons))))
        · have e9 := stI_n (room := room) (Fs := Fs) (i := i) (fun h => hp h.2.2.1)
          repeat (first | refine c_seq ?_ | (refine c_region (id := 2) ?_; refine sq (by first | exact dlsst | exact dlssf) ?_; refine l_nil ?_) | (refine c_region (id := 3) ?_; refine sq qm ?_; refine sq qa ?_; refine l_nil ?_) | (refine x_region (id := 4) none [(0, .n), (1, .n), (2, .n), (3, .q), (4, .n), (5, .n), (6, .n), (7, .q), (8, .n), (9, .n), (10, .e), (11, .n), (12, .n), (13, .n), (14, .n), (15, .n)] _ mixed (by kernel_rfl) (List.Sublist.refl _) ?_; refine xn rfl qm ?_; refine xn rfl qn ?_; refine xn rfl qf ?_; refine xq rfl ql ?_; refine xn rfl qm ?_; refine xn rfl qn ?_; refine xn rfl qf ?_; refine xq rfl ql ?_; refine xn rfl qm ?_; refine xn rfl (by exact Qt.cast (v' := .int .i64 ((fr + i : Nat) : Int)) (congrArg (Value.int .i64) (by omega)) (q_add64 rfl rfl ⟨by omega, by omega⟩ rfl)) ?_; refine x_e rfl ?_; refine ecl rfl rfl (fun w hC hm hL => by exact rd_ok gd gw gm D (fr + i) (Fs i) hFi hgo hn6 w (hL.sub (by (repeat (first | exact List.nil_sublist _ | exact List.Sublist.slnil | apply List.Sublist.cons_cons | exact List.Sublist.refl _ | apply List.Sublist.cons))))) ?_; intro z4 m4 hz4 hn4 hm4; obtain ⟨b4, cap4⟩ := z4; obtain ⟨hz4a, hz4b, g4, hz4c⟩ := hz4; dsimp only at hz4a hz4b hz4c; subst hz4c; dsimp only; refine xk ?_; refine xn rfl qm ?_; refine xn rfl qe ?_; refine xn rfl qe ?_; refine xn rfl qa ?_; refine xn rfl qa ?_; refine x_nil ?_) | (refine c_region (id := 5) ?_; refine sq qm ?_; refine sq (by first | exact dneqt | exact dneqf) ?_; refine l_nil ?_) | (refine c_region (id := 7) ?_; refine sq qm ?_; refine se ?_; refine ecp rfl rfl (fun w hC hm hL => by exact headOf_y (Fs i) (hRB i hi2) hS g4 0 cap4 (by omega) w (hL.old_sl (k := 64) (o := 0) (by (repeat (first | exact List.Mem.head _ | apply List.Mem.tail))) (sec_old (Fs i)))) ?_; intro m' hm'; refine sq qm ?_; refine sq qe ?_; refine sq qe ?_; refine se ?_; refine ea ?_; refine se ?_; refine esa ?_ (hk := by rfl) (ho := by rfl) (hoff := by rfl); refine sq qa ?_; refine l_nil ?_) | (refine x_region (id := 8) none [(0, .n), (1, .n), (2, .n), (3, .q), (4, .n), (5, .n), (6, .n), (7, .q), (8, .n), (9, .n), (10, .n), (11, .n), (12, .q), (14, .n), (13, .e), (15, .n), (16, .n), (17, .n), (18, .n), (19, .q), (20, .n), (21, .n), (22, .n), (23, .n), (24, .q), (25, .n), (26, .n)] _ mixed (by kernel_rfl) (List.Sublist.refl _) ?_; refine xn rfl qm ?_; refine xn rfl qm ?_; (first | refine x_nskip rfl rfl rfl rfl ?_ | refine x_nskipv rfl rfl (by rfl) rfl ?_ | refine x_ng rfl rfl rfl (by exact qf) rfl ?_); (first | refine x_skip rfl rfl rfl rfl ?_ | refine x_skipv rfl rfl (by rfl) rfl ?_ | refine x_qg rfl rfl rfl (by exact ql) rfl ?_); (first | refine x_nskip rfl rfl rfl rfl ?_ | refine x_nskipv rfl rfl (by rfl) rfl ?_ | refine x_ng rfl rfl rfl (by exact qm) rfl ?_); (first | refine x_nskip rfl rfl rfl rfl ?_ | refine x_nskipv rfl rfl (by rfl) rfl ?_ | refine x_ng rfl rfl rfl (by exact qn) rfl ?_); (first | refine x_nskip rfl rfl rfl rfl ?_ | refine x_nskipv rfl rfl (by rfl) rfl ?_ | refine x_ng rfl rfl rfl (by exact qf) rfl ?_); (first | refine x_skip rfl rfl rfl rfl ?_ | refine x_skipv rfl rfl (by rfl) rfl ?_ | refine x_qg rfl rfl rfl (by exact ql) rfl ?_); (first | refine x_nskip rfl rfl rfl rfl ?_ | refine x_nskipv rfl rfl (by rfl) rfl ?_ | refine x_ng rfl rfl rfl (by exact qcU) rfl ?_); (first | refine x_nskip rfl rfl rfl rfl ?_ | refine x_nskipv rfl rfl (by rfl) rfl ?_ | refine x_ng rfl rfl rfl (by first | exact dleqt | exact dleqf) rfl ?_); refine xn rfl (by first | exact qpt | exact qpf) ?_; refine xn rfl qm ?_; (first | refine x_skip rfl rfl rfl rfl ?_ | refine x_skipv rfl rfl (by rfl) rfl ?_ | refine x_qg rfl rfl rfl (by exact qlb (hl := by rfl)) rfl ?_); (first | refine x_nskip rfl rfl rfl rfl ?_ | refine x_nskipv rfl rfl (by rfl) rfl ?_ | refine x_ng rfl rfl rfl (by exact qm) rfl ?_); (first | refine x_eskip (List.Sublist.refl _) rfl rfl rfl rfl ?_ | refine x_eskipv (List.Sublist.refl _) rfl rfl (by rfl) rfl ?_ | (refine x_eg rfl rfl rfl ?_; refine ecp rfl rfl (fun w hC hm hL => by exact place_c (hdOf (Fs i)) hse w) ?_; intro m' hm'; refine xk ?_)); (first | refine x_nskip rfl rfl rfl rfl ?_ | refine x_nskipv rfl rfl (by rfl) rfl ?_ | refine x_ng rfl rfl rfl (by first | exact deqlt | exact deqlf) rfl ?_); refine xn rfl (by first | exact qpt | exact qpf) ?_; refine xn rfl qm ?_; (first | refine x_nskip rfl rfl rfl rfl ?_ | refine x_nskipv rfl rfl (by rfl) rfl ?_ | refine x_ng rfl rfl rfl (by exact qf) rfl ?_); (first | refine x_skip rfl rfl rfl rfl ?_ | refine x_skipv rfl rfl (by rfl) rfl ?_ | refine x_qg rfl rfl rfl (by exact ql) rfl ?_); (first | refine x_nskip rfl rfl rfl rfl ?_ | refine x_nskipv rfl rfl (by rfl) rfl ?_ | refine x_ng rfl rfl rfl (by exact qm) rfl ?_); (first | refine x_nskip rfl rfl rfl rfl ?_ | refine x_nskipv rfl rfl (by rfl) rfl ?_ | refine x_ng rfl rfl rfl (by exact qn) rfl ?_); (first | refine x_nskip rfl rfl rfl rfl ?_ | refine x_nskipv rfl rfl (by rfl) rfl ?_ | refine x_ng rfl rfl rfl (by exact qf) rfl ?_); (first | refine x_nskip rfl rfl rfl rfl ?_ | refine x_nskipv rfl rfl (by rfl) rfl ?_ | refine x_ng rfl rfl rfl (by exact qf) rfl ?_); (first | refine x_skip rfl rfl rfl rfl ?_ | refine x_skipv rfl rfl (by rfl) rfl ?_ | refine x_qg rfl rfl rfl (by exact ql) rfl ?_); (first | refine x_nskip rfl rfl rfl rfl ?_ | refine x_nskipv rfl rfl (by rfl) rfl ?_ | refine x_ng rfl rfl rfl (by first | exact dgeqt | exact dgeqf) rfl ?_); refine xn rfl (by first | exact qpt | exact qpf) ?_; refine x_nil ?_) | (refine c_region (id := 10) ?_; refine sq qadd64 ?_; refine sq qm ?_; refine l_nil ?_) | refine n_then ?_ | refine c_block ?_ | refine c_skip ?_ | refine n_block ?_ | refine c_exit ?_ | refine n_then_exit ?_ | refine n_block_eq ?_ | refine n_block_ne rfl ?_ | refine c_ret ?_ | refine n_then_ret ?_ | refine n_block_ret ?_ | refine c_cond_t rfl ?_ | refine c_cond_f rfl ?_ | refine r_succ ?_ )
          refine c_round ⟨i + 1, m'⟩ ⟨by dsimp only; omega, by dsimp only; omega⟩ (by dsimp only; omega) ⟨rfl, rfl, rfl, trivial⟩ (by rfl) (by dsimp only; rw [e9]; exact (by (repeat (first | exact List.nil_sublist _ | exact List.Sublist.slnil | apply List.Sublist.cons_cons | exact List.Sublist.refl _ | apply List.Sublist.cons))))
      · have e9 := stI_n (room := room) (Fs := Fs) (i := i) (fun h => hc h.2.1)
        repeat (first | refine c_seq ?_ | (refine c_region (id := 2) ?_; refine sq (by first | exact dlsst | exact dlssf) ?_; refine l_nil ?_) | (refine c_region (id := 3) ?_; refine sq qm ?_; refine sq qa ?_; refine l_nil ?_) | (refine x_region (id := 4) none [(0, .n), (1, .n), (2, .n), (3, .q), (4, .n), (5, .n), (6, .n), (7, .q), (8, .n), (9, .n), (10, .e), (11, .n), (12, .n), (13, .n), (14, .n), (15, .n)] _ mixed (by kernel_rfl) (List.Sublist.refl _) ?_; refine xn rfl qm ?_; refine xn rfl qn ?_; refine xn rfl qf ?_; refine xq rfl ql ?_; refine xn rfl qm ?_; refine xn rfl qn ?_; refine xn rfl qf ?_; refine xq rfl ql ?_; refine xn rfl qm ?_; refine xn rfl (by exact Qt.cast (v' := .int .i64 ((fr + i : Nat) : Int)) (congrArg (Value.int .i64) (by omega)) (q_add64 rfl rfl ⟨by omega, by omega⟩ rfl)) ?_; refine x_e rfl ?_; refine ecl rfl rfl (fun w hC hm hL => by exact rd_ok gd gw gm D (fr + i) (Fs i) hFi hgo hn6 w (hL.sub (by (repeat (first | exact List.nil_sublist _ | exact List.Sublist.slnil | apply List.Sublist.cons_cons | exact List.Sublist.refl _ | apply List.Sublist.cons))))) ?_; intro z4 m4 hz4 hn4 hm4; obtain ⟨b4, cap4⟩ := z4; obtain ⟨hz4a, hz4b, g4, hz4c⟩ := hz4; dsimp only at hz4a hz4b hz4c; subst hz4c; dsimp only; refine xk ?_; refine xn rfl qm ?_; refine xn rfl qe ?_; refine xn rfl qe ?_; refine xn rfl qa ?_; refine xn rfl qa ?_; refine x_nil ?_) | (refine c_region (id := 5) ?_; refine sq qm ?_; refine sq (by first | exact dneqt | exact dneqf) ?_; refine l_nil ?_) | (refine c_region (id := 7) ?_; refine sq qm ?_; refine se ?_; refine ecp rfl rfl (fun w hC hm hL => by exact headOf_y (Fs i) (hRB i hi2) hS g4 0 cap4 (by omega) w (hL.old_sl (k := 64) (o := 0) (by (repeat (first | exact List.Mem.head _ | apply List.Mem.tail))) (sec_old (Fs i)))) ?_; intro m' hm'; refine sq qm ?_; refine sq qe ?_; refine sq qe ?_; refine se ?_; refine ea ?_; refine se ?_; refine esa ?_ (hk := by rfl) (ho := by rfl) (hoff := by rfl); refine sq qa ?_; refine l_nil ?_) | (refine x_region (id := 8) none [(0, .n), (1, .n), (2, .n), (3, .q), (4, .n), (5, .n), (6, .n), (7, .q), (8, .n), (9, .n), (10, .n), (11, .n), (12, .q), (14, .n), (13, .e), (15, .n), (16, .n), (17, .n), (18, .n), (19, .q), (20, .n), (21, .n), (22, .n), (23, .n), (24, .q), (25, .n), (26, .n)] _ mixed (by kernel_rfl) (List.Sublist.refl _) ?_; refine xn rfl qm ?_; refine xn rfl qm ?_; (first | refine x_nskip rfl rfl rfl rfl ?_ | refine x_nskipv rfl rfl (by rfl) rfl ?_ | refine x_ng rfl rfl rfl (by exact qf) rfl ?_); (first | refine x_skip rfl rfl rfl rfl ?_ | refine x_skipv rfl rfl (by rfl) rfl ?_ | refine x_qg rfl rfl rfl (by exact ql) rfl ?_); (first | refine x_nskip rfl rfl rfl rfl ?_ | refine x_nskipv rfl rfl (by rfl) rfl ?_ | refine x_ng rfl rfl rfl (by exact qm) rfl ?_); (first | refine x_nskip rfl rfl rfl rfl ?_ | refine x_nskipv rfl rfl (by rfl) rfl ?_ | refine x_ng rfl rfl rfl (by exact qn) rfl ?_); (first | refine x_nskip rfl rfl rfl rfl ?_ | refine x_nskipv rfl rfl (by rfl) rfl ?_ | refine x_ng rfl rfl rfl (by exact qf) rfl ?_); (first | refine x_skip rfl rfl rfl rfl ?_ | refine x_skipv rfl rfl (by rfl) rfl ?_ | refine x_qg rfl rfl rfl (by exact ql) rfl ?_); (first | refine x_nskip rfl rfl rfl rfl ?_ | refine x_nskipv rfl rfl (by rfl) rfl ?_ | refine x_ng rfl rfl rfl (by exact qcU) rfl ?_); (first | refine x_nskip rfl rfl rfl rfl ?_ | refine x_nskipv rfl rfl (by rfl) rfl ?_ | refine x_ng rfl rfl rfl (by first | exact dleqt | exact dleqf) rfl ?_); refine xn rfl (by first | exact qpt | exact qpf) ?_; refine xn rfl qm ?_; (first | refine x_skip rfl rfl rfl rfl ?_ | refine x_skipv rfl rfl (by rfl) rfl ?_ | refine x_qg rfl rfl rfl (by exact qlb (hl := by rfl)) rfl ?_); (first | refine x_nskip rfl rfl rfl rfl ?_ | refine x_nskipv rfl rfl (by rfl) rfl ?_ | refine x_ng rfl rfl rfl (by exact qm) rfl ?_); (first | refine x_eskip (List.Sublist.refl _) rfl rfl rfl rfl ?_ | refine x_eskipv (List.Sublist.refl _) rfl rfl (by rfl) rfl ?_ | (refine x_eg rfl rfl rfl ?_; refine ecp rfl rfl (fun w hC hm hL => by exact place_c (hdOf (Fs i)) hse w) ?_; intro m' hm'; refine xk ?_)); (first | refine x_nskip rfl rfl rfl rfl ?_ | refine x_nskipv rfl rfl (by rfl) rfl ?_ | refine x_ng rfl rfl rfl (by first | exact deqlt | exact deqlf) rfl ?_); refine xn rfl (by first | exact qpt | exact qpf) ?_; refine xn rfl qm ?_; (first | refine x_nskip rfl rfl rfl rfl ?_ | refine x_nskipv rfl rfl (by rfl) rfl ?_ | refine x_ng rfl rfl rfl (by exact qf) rfl ?_); (first | refine x_skip rfl rfl rfl rfl ?_ | refine x_skipv rfl rfl (by rfl) rfl ?_ | refine x_qg rfl rfl rfl (by exact ql) rfl ?_); (first | refine x_nskip rfl rfl rfl rfl ?_ | refine x_nskipv rfl rfl (by rfl) rfl ?_ | refine x_ng rfl rfl rfl (by exact qm) rfl ?_); (first | refine x_nskip rfl rfl rfl rfl ?_ | refine x_nskipv rfl rfl (by rfl) rfl ?_ | refine x_ng rfl rfl rfl (by exact qn) rfl ?_); (first | refine x_nskip rfl rfl rfl rfl ?_ | refine x_nskipv rfl rfl (by rfl) rfl ?_ | refine x_ng rfl rfl rfl (by exact qf) rfl ?_); (first | refine x_nskip rfl rfl rfl rfl ?_ | refine x_nskipv rfl rfl (by rfl) rfl ?_ | refine x_ng rfl rfl rfl (by exact qf) rfl ?_); (first | refine x_skip rfl rfl rfl rfl ?_ | refine x_skipv rfl rfl (by rfl) rfl ?_ | refine x_qg rfl rfl rfl (by exact ql) rfl ?_); (first | refine x_nskip rfl rfl rfl rfl ?_ | refine x_nskipv rfl rfl (by rfl) rfl ?_ | refine x_ng rfl rfl rfl (by first | exact dgeqt | exact dgeqf) rfl ?_); refine xn rfl (by first | exact qpt | exact qpf) ?_; refine x_nil ?_) | (refine c_region (id := 10) ?_; refine sq qadd64 ?_; refine sq qm ?_; refine l_nil ?_) | refine n_then ?_ | refine c_block ?_ | refine c_skip ?_ | refine n_block ?_ | refine c_exit ?_ | refine n_then_exit ?_ | refine n_block_eq ?_ | refine n_block_ne rfl ?_ | refine c_ret ?_ | refine n_then_ret ?_ | refine n_block_ret ?_ | refine c_cond_t rfl ?_ | refine c_cond_f rfl ?_ | refine r_succ ?_ )
        refine c_round ⟨i + 1, m' + 1⟩ ⟨by dsimp only; omega, by dsimp only; omega⟩ (by dsimp only; omega) ⟨rfl, rfl, rfl, trivial⟩ (by rfl) (by dsimp only; rw [e9]; exact (by (repeat (first | exact List.nil_sublist _ | exact List.Sublist.slnil | apply List.Sublist.cons_cons | exact List.Sublist.refl _ | apply List.Sublist.cons))))
    · have e9 := stI_n (room := room) (Fs := Fs) (i := i) (fun h => hS h.1)
      repeat (first | refine c_seq ?_ | (refine c_region (id := 2) ?_; refine sq (by first | exact dlsst | exact dlssf) ?_; refine l_nil ?_) | (refine c_region (id := 3) ?_; refine sq qm ?_; refine sq qa ?_; refine l_nil ?_) | (refine x_region (id := 4) none [(0, .n), (1, .n), (2, .n), (3, .q), (4, .n), (5, .n), (6, .n), (7, .q), (8, .n), (9, .n), (10, .e), (11, .n), (12, .n), (13, .n), (14, .n), (15, .n)] _ mixed (by kernel_rfl) (List.Sublist.refl _) ?_; refine xn rfl qm ?_; refine xn rfl qn ?_; refine xn rfl qf ?_; refine xq rfl ql ?_; refine xn rfl qm ?_; refine xn rfl qn ?_; refine xn rfl qf ?_; refine xq rfl ql ?_; refine xn rfl qm ?_; refine xn rfl (by exact Qt.cast (v' := .int .i64 ((fr + i : Nat) : Int)) (congrArg (Value.int .i64) (by omega)) (q_add64 rfl rfl ⟨by omega, by omega⟩ rfl)) ?_; refine x_e rfl ?_; refine ecl rfl rfl (fun w hC hm hL => by exact rd_ok gd gw gm D (fr + i) (Fs i) hFi hgo hn6 w (hL.sub (by (repeat (first | exact List.nil_sublist _ | exact List.Sublist.slnil | apply List.Sublist.cons_cons | exact List.Sublist.refl _ | apply List.Sublist.cons))))) ?_; intro z4 m4 hz4 hn4 hm4; obtain ⟨b4, cap4⟩ := z4; obtain ⟨hz4a, hz4b, g4, hz4c⟩ := hz4; dsimp only at hz4a hz4b hz4c; subst hz4c; dsimp only; refine xk ?_; refine xn rfl qm ?_; refine xn rfl qe ?_; refine xn rfl qe ?_; refine xn rfl qa ?_; refine xn rfl qa ?_; refine x_nil ?_) | (refine c_region (id := 5) ?_; refine sq qm ?_; refine sq (by first | exact dneqt | exact dneqf) ?_; refine l_nil ?_) | (refine c_region (id := 7) ?_; refine sq qm ?_; refine se ?_; refine ecp rfl rfl (fun w hC hm hL => by exact headOf_n (Fs i) (hRB i hi2) hS g4 0 cap4 (by omega) w (hL.old_sl (k := 64) (o := 0) (by (repeat (first | exact List.Mem.head _ | apply List.Mem.tail))) (sec_old (Fs i)))) ?_; intro m' hm'; refine sq qm ?_; refine sq qe ?_; refine sq qe ?_; refine se ?_; refine ea ?_; refine se ?_; refine esa ?_ (hk := by rfl) (ho := by rfl) (hoff := by rfl); refine sq qa ?_; refine l_nil ?_) | (refine x_region (id := 8) none [(0, .n), (1, .n), (2, .n), (3, .q), (4, .n), (5, .n), (6, .n), (7, .q), (8, .n), (9, .n), (10, .n), (11, .n), (12, .q), (14, .n), (13, .e), (15, .n), (16, .n), (17, .n), (18, .n), (19, .q), (20, .n), (21, .n), (22, .n), (23, .n), (24, .q), (25, .n), (26, .n)] _ mixed (by kernel_rfl) (List.Sublist.refl _) ?_; refine xn rfl qm ?_; refine xn rfl qm ?_; (first | refine x_nskip rfl rfl rfl rfl ?_ | refine x_nskipv rfl rfl (by rfl) rfl ?_ | refine x_ng rfl rfl rfl (by exact qf) rfl ?_); (first | refine x_skip rfl rfl rfl rfl ?_ | refine x_skipv rfl rfl (by rfl) rfl ?_ | refine x_qg rfl rfl rfl (by exact ql) rfl ?_); (first | refine x_nskip rfl rfl rfl rfl ?_ | refine x_nskipv rfl rfl (by rfl) rfl ?_ | refine x_ng rfl rfl rfl (by exact qm) rfl ?_); (first | refine x_nskip rfl rfl rfl rfl ?_ | refine x_nskipv rfl rfl (by rfl) rfl ?_ | refine x_ng rfl rfl rfl (by exact qn) rfl ?_); (first | refine x_nskip rfl rfl rfl rfl ?_ | refine x_nskipv rfl rfl (by rfl) rfl ?_ | refine x_ng rfl rfl rfl (by exact qf) rfl ?_); (first | refine x_skip rfl rfl rfl rfl ?_ | refine x_skipv rfl rfl (by rfl) rfl ?_ | refine x_qg rfl rfl rfl (by exact ql) rfl ?_); (first | refine x_nskip rfl rfl rfl rfl ?_ | refine x_nskipv rfl rfl (by rfl) rfl ?_ | refine x_ng rfl rfl rfl (by exact qcU) rfl ?_); (first | refine x_nskip rfl rfl rfl rfl ?_ | refine x_nskipv rfl rfl (by rfl) rfl ?_ | refine x_ng rfl rfl rfl (by first | exact dleqt | exact dleqf) rfl ?_); refine xn rfl (by first | exact qpt | exact qpf) ?_; refine xn rfl qm ?_; (first | refine x_skip rfl rfl rfl rfl ?_ | refine x_skipv rfl rfl (by rfl) rfl ?_ | refine x_qg rfl rfl rfl (by exact qlb (hl := by rfl)) rfl ?_); (first | refine x_nskip rfl rfl rfl rfl ?_ | refine x_nskipv rfl rfl (by rfl) rfl ?_ | refine x_ng rfl rfl rfl (by exact qm) rfl ?_); (first | refine x_eskip (List.Sublist.refl _) rfl rfl rfl rfl ?_ | refine x_eskipv (List.Sublist.refl _) rfl rfl (by rfl) rfl ?_ | (refine x_eg rfl rfl rfl ?_; refine ecp rfl rfl (fun w hC hm hL => by exact place_c (hdOf (Fs i)) hse w) ?_; intro m' hm'; refine xk ?_)); (first | refine x_nskip rfl rfl rfl rfl ?_ | refine x_nskipv rfl rfl (by rfl) rfl ?_ | refine x_ng rfl rfl rfl (by first | exact deqlt | exact deqlf) rfl ?_); refine xn rfl (by first | exact qpt | exact qpf) ?_; refine xn rfl qm ?_; (first | refine x_nskip rfl rfl rfl rfl ?_ | refine x_nskipv rfl rfl (by rfl) rfl ?_ | refine x_ng rfl rfl rfl (by exact qf) rfl ?_); (first | refine x_skip rfl rfl rfl rfl ?_ | refine x_skipv rfl rfl (by rfl) rfl ?_ | refine x_qg rfl rfl rfl (by exact ql) rfl ?_); (first | refine x_nskip rfl rfl rfl rfl ?_ | refine x_nskipv rfl rfl (by rfl) rfl ?_ | refine x_ng rfl rfl rfl (by exact qm) rfl ?_); (first | refine x_nskip rfl rfl rfl rfl ?_ | refine x_nskipv rfl rfl (by rfl) rfl ?_ | refine x_ng rfl rfl rfl (by exact qn) rfl ?_); (first | refine x_nskip rfl rfl rfl rfl ?_ | refine x_nskipv rfl rfl (by rfl) rfl ?_ | refine x_ng rfl rfl rfl (by exact qf) rfl ?_); (first | refine x_nskip rfl rfl rfl rfl ?_ | refine x_nskipv rfl rfl (by rfl) rfl ?_ | refine x_ng rfl rfl rfl (by exact qf) rfl ?_); (first | refine x_skip rfl rfl rfl rfl ?_ | refine x_skipv rfl rfl (by rfl) rfl ?_ | refine x_qg rfl rfl rfl (by exact ql) rfl ?_); (first | refine x_nskip rfl rfl rfl rfl ?_ | refine x_nskipv rfl rfl (by rfl) rfl ?_ | refine x_ng rfl rfl rfl (by first | exact dgeqt | exact dgeqf) rfl ?_); refine xn rfl (by first | exact qpt | exact qpf) ?_; refine x_nil ?_) | (refine c_region (id := 10) ?_; refine sq qadd64 ?_; refine sq qm ?_; refine l_nil ?_) | refine n_then ?_ | refine c_block ?_ | refine c_skip ?_ | refine n_block ?_ | refine c_exit ?_ | refine n_then_exit ?_ | refine n_block_eq ?_ | refine n_block_ne rfl ?_ | refine c_ret ?_ | refine n_then_ret ?_ | refine n_block_ret ?_ | refine c_cond_t rfl ?_ | refine c_cond_f rfl ?_ | refine r_succ ?_ )
      refine c_round ⟨i + 1, m' + 1⟩ ⟨by dsimp only; omega, by dsimp only; omega⟩ (by dsimp only; omega) ⟨rfl, rfl, rfl, trivial⟩ (by rfl) (by dsimp only; rw [e9]; exact (by (repeat (first | exact List.nil_sublist _ | exact List.Sublist.slnil | apply List.Sublist.cons_cons | exact List.Sublist.refl _ | apply List.Sublist.cons))))
  · obtain rfl : i = 2 := by omega
    repeat (first | refine c_seq ?_ | (refine c_region (id := 2) ?_; refine sq (by first | exact dlsst | exact dlssf) ?_; refine l_nil ?_) | (refine c_region (id := 11) ?_; refine sq qa ?_; refine l_nil ?_) | refine n_then ?_ | refine c_block ?_ | refine c_skip ?_ | refine n_block ?_ | refine c_exit ?_ | refine n_then_exit ?_ | refine n_block_eq ?_ | refine n_block_ne rfl ?_ | refine c_ret ?_ | refine n_then_ret ?_ | refine n_block_ret ?_ | refine c_cond_t rfl ?_ | refine c_cond_f rfl ?_ | refine r_succ ?_ )
    (first | apply r_ret () | apply r_end ()); exact rfl; exact rfl; exact (.tmp rfl .nil); exact rfl; exact (by exact (by (repeat (first | exact List.nil_sublist _ | exact List.Sublist.slnil | apply List.Sublist.cons_cons | exact List.Sublist.refl _ | apply List.Sublist.cons)))); exact (by intro g hg; simp [feet, Chunk.foot] at hg; exact .inl (by simp [hg])); exact trivial
def rmL (Fs : Nat → Nat → Int) (n : Nat) : List Int := (List.range n).map fun p => Fs (2 + p / 64) (p % 64)
theorem rmL_len (Fs : Nat → Nat → Int) (n : Nat) : (rmL Fs n).length = n := by simp [rmL]
theorem rm_succ (Fs : Nat → Nat → Int) (i : Nat) : rmL Fs (64 * i) ++ secL (Fs (2 + i)) 64 = rmL Fs (64 * i + 64) := by
  unfold rmL secL
  rw [List.range_add, List.map_append, List.map_map]
  congr 1
  apply List.map_congr_left
  intro j hj
  have hj := List.mem_range.1 hj
  show Fs (2 + i) j = Fs (2 + (64 * i + j) / 64) ((64 * i + j) % 64)
  rw [show (64 * i + j) / 64 = i by omega, show (64 * i + j) % 64 = j by omega]
theorem rm_take (Fs : Nat → Nat → Int) (n c : Nat) (h : c ≤ n) : (rmL Fs n).take c = rmL Fs c := by
  unfold rmL
  rw [← List.map_take, List.take_range, Nat.min_eq_left h]
theorem sl0 {X : List Nat} {k : Nat} {b : Option Addr} {cap len : Nat} (h : OS X k b cap len) : (if cap = (0 : Int).toNat then b else b.map (·.add ((0 : Int).toNat * 1))) = b := by
  rcases h.ob with ⟨rfl, _⟩ | ⟨g, rfl⟩
  · simp
  · split
    · rfl
    · simp [Addr.add_mid]
set_option maxRecDepth 100000 in
set_option maxHeartbeats 4000000 in
theorem bytesR_c (gl gd gw gm fr room : Nat) (h : Hd) (ov : Bool) (Fs : Nat → Nat → Int) (c : Nat) (hc : h.cnt = c) (hfr : fr ≤ 16384) (hcr : c ≤ room) (hroom : room ≤ 2000000) (D : Dk) (hgo : D.gone = false) (hn6 : D.secs.length ≤ 16384) (hF : ∀ i, 64 * i < c → D.secs[fr + (2 + i)]? = some (Fs (2 + i))) (w : World) (hL0 : Has (LgB gl gd fr room h (.slice none 0 0) ov :: DskL gd gw gm D) w) :
    CA Try.prog 30 [.pointer (some ⟨gl, 0, none⟩)] w (Ret (fun _ : Option Addr × Nat => .int .i64 0) [gl] (fun z => [.sl z.1 z.2 5 1 ((rmL Fs (c)).map (Value.int .u8)), LgB gl gd fr room h (.slice z.1 (c) z.2) ov]) (fun z => c ≤ z.2 ∧ z.2 ≤ 9223372036854775807 ∧ ((z.1 = none ∧ c = 0) ∨ ∃ g, z.1 = some ⟨g, 0, none⟩)) w) := by
  refine enter (L := (LgB gl gd fr room h (.slice none 0 0) ov :: DskL gd gw gm D)) (X := [gl]) Try.func30 rfl Try.ntmps30 rfl rfl hL0 ?_
  repeat (first | refine c_seq ?_ | (refine c_region (id := 0) ?_; refine sq qa ?_; refine l_nil ?_) | (refine c_region (id := 1) ?_; refine sq qm ?_; refine sq qn ?_; refine sq qf ?_; refine sq qf ?_; refine sq ql ?_; refine sq (by exact Qt.cast (v' := .int .i64 ((c : Nat) : Int)) (congrArg (Value.int .i64) (by omega)) (qci (h0 := by omega) (h1 := by omega))) ?_; refine sq qa ?_; refine l_nil ?_) | (refine c_region (id := 2) ?_; refine sq qa ?_; refine l_nil ?_) | refine n_then ?_ | refine c_block ?_ | refine c_skip ?_ | refine n_block ?_ | refine c_exit ?_ | refine n_then_exit ?_ | refine n_block_eq ?_ | refine n_block_ne rfl ?_ | refine c_ret ?_ | refine n_then_ret ?_ | refine n_block_ret ?_ | refine c_cond_t rfl ?_ | refine c_cond_f rfl ?_ | refine r_succ ?_ )
  refine add_nil 5 1 ?_
  refine c_loop (γ := Nat × Option Addr × Nat × Nat) (fun z => [(4, .int .i64 z.1), (3, .int .i64 c), (0, .pointer (some ⟨gl, 0, none⟩)), (2, .int .i64 0)]) (fun z => z.2.2.2) (fun z => .sl z.2.1 z.2.2.1 5 1 ((rmL Fs (64 * z.1)).map (Value.int .u8)) :: LgB gl gd fr room h (.slice z.2.1 (64 * z.1) z.2.2.1) ov :: DskL gd gw gm D) (fun z => 64 * z.1 < c + 64 ∧ OS [gl] w.heap.size z.2.1 z.2.2.1 (64 * z.1) ∧ w.heap.size ≤ z.2.2.2) (fun z => c + 64 - 64 * z.1) ⟨0, none, 0, w.heap.size⟩ ⟨by simp, OS.nil _ _, Nat.le_refl _⟩ ⟨rfl, rfl, rfl, rfl, trivial⟩ rfl (List.Sublist.refl _) ?_
  rintro ⟨i, b, cap, mm⟩ ⟨hi, ho, hmm⟩
  dsimp only at hi ho hmm ⊢
  by_cases h8 : 64 * i < c
  · have hFi := hF i h8
    repeat (first | refine c_seq ?_ | (refine c_region (id := 3) ?_; refine sq qm ?_; refine sq qn ?_; refine sq qf ?_; refine sq ql ?_; refine sq qls ?_; refine sq qm ?_; refine sq (by first | exact dlsst | exact dlssf) ?_; refine l_nil ?_) | (refine c_region (id := 4) ?_; refine sq qm ?_; refine sq qadd64 ?_; refine sq qa ?_; refine l_nil ?_) | (refine x_region (id := 5) none [(0, .n), (1, .n), (2, .n), (3, .q), (4, .n), (5, .n), (6, .n), (7, .q), (8, .n), (9, .n), (10, .n), (11, .e), (12, .n), (13, .n), (14, .n), (15, .n), (16, .n)] _ mixed (by kernel_rfl) (List.Sublist.refl _) ?_; refine xn rfl qm ?_; refine xn rfl qn ?_; refine xn rfl qf ?_; refine xq rfl ql ?_; refine xn rfl qm ?_; refine xn rfl qn ?_; refine xn rfl qf ?_; refine xq rfl ql ?_; refine xn rfl qadd64 ?_; refine xn rfl qm ?_; refine xn rfl (by exact Qt.cast (v' := .int .i64 ((fr + (2 + i) : Nat) : Int)) (congrArg (Value.int .i64) (by omega)) (q_add64 rfl rfl ⟨by omega, by omega⟩ rfl)) ?_; refine x_e rfl ?_; refine ecl rfl rfl (fun w hC hm hL => by exact rd_ok gd gw gm D (fr + (2 + i)) (Fs (2 + i)) hFi hgo hn6 w (hL.sub (by (repeat (first | exact List.nil_sublist _ | exact List.Sublist.slnil | apply List.Sublist.cons_cons | exact List.Sublist.refl _ | apply List.Sublist.cons))))) ?_; intro z4 m4 hz4 hn4 hm4; obtain ⟨b4, cap4⟩ := z4; obtain ⟨hz4a, hz4b, g4, hz4c⟩ := hz4; dsimp only at hz4a hz4b hz4c; subst hz4c; dsimp only; refine xk ?_; refine xn rfl qm ?_; refine xn rfl qe ?_; refine xn rfl qe ?_; refine xn rfl qa ?_; refine xn rfl qa ?_; refine x_nil ?_) | (refine c_region (id := 6) ?_; refine sq qm ?_; refine sq (by first | exact dneqt | exact dneqf) ?_; refine l_nil ?_) | (refine c_region (id := 8) ?_; refine sq qm ?_; refine sq qm ?_; refine sq qn ?_; refine sq qf ?_; refine sq ql ?_; refine sq qm ?_; refine se ?_; refine e_appE (Value.int .u8) (rmL Fs (64 * i)) (secL (Fs (2 + i)) 64) rfl rfl rfl (by (repeat (first | exact Rm.here | apply Rm.there))) (.inr ⟨_, rfl, RdN.sl (by (repeat (first | exact List.Mem.head _ | apply List.Mem.tail))) (by rw [List.drop_zero]; exact List.take_length)⟩) (rmL_len _ _) (secL_len _ _) ho (allOne_u8L _) (by omega) (by omega) ?_; intro b2 cap2 m2 ho2 hm2; refine sq qn ?_; refine sq qf ?_; refine se ?_; refine es1 ?_ (hg := .inl (by simp)); refine l_nil ?_) | refine n_then ?_ | refine c_block ?_ | refine c_skip ?_ | refine n_block ?_ | refine c_exit ?_ | refine n_then_exit ?_ | refine n_block_eq ?_ | refine n_block_ne rfl ?_ | refine c_ret ?_ | refine n_then_ret ?_ | refine n_block_ret ?_ | refine c_cond_t rfl ?_ | refine c_cond_f rfl ?_ | refine r_succ ?_ )
    refine c_round ⟨i + 1, b2, cap2, m2⟩ ⟨by dsimp only; omega, ho2, by dsimp only; omega⟩ (by dsimp only; omega) ⟨rfl, rfl, rfl, rfl, trivial⟩ (by rfl) (by dsimp only; rw [rm_succ]; exact (by (repeat (first | exact List.nil_sublist _ | exact List.Sublist.slnil | apply List.Sublist.cons_cons | exact List.Sublist.refl _ | apply List.Sublist.cons))))
  · have hlc := ho.le
    have e9 : ((rmL Fs (64 * i)).map (Value.int .u8)).take c = (rmL Fs c).map (Value.int .u8) := by rw [← List.map_take, rm_take _ _ _ (by omega)]
    refine wk_sl c (by (repeat (first | exact Pl.here | apply Pl.there))) ?_
    rw [e9]
    repeat (first | refine c_seq ?_ | (refine c_region (id := 3) ?_; refine sq qm ?_; refine sq qn ?_; refine sq qf ?_; refine sq ql ?_; refine sq qls ?_; refine sq qm ?_; refine sq (by first | exact dlsst | exact dlssf) ?_; refine l_nil ?_) | (refine c_region (id := 9) ?_; refine sq qm ?_; refine sq qm ?_; refine sq qn ?_; refine sq qf ?_; refine sq ql ?_; refine sq qm ?_; refine sq (by exact qs (b' := b) (hb' := sl0 ho) (h2 := by have := ho.le; omega) (hlc := ho.le)) ?_; refine sq qn ?_; refine sq qf ?_; refine se ?_; refine es1 ?_ (hg := .inl (by simp)); refine l_nil ?_) | (refine c_region (id := 10) ?_; refine sq qa ?_; refine l_nil ?_) | refine n_then ?_ | refine c_block ?_ | refine c_skip ?_ | refine n_block ?_ | refine c_exit ?_ | refine n_then_exit ?_ | refine n_block_eq ?_ | refine n_block_ne rfl ?_ | refine c_ret ?_ | refine n_then_ret ?_ | refine n_block_ret ?_ | refine c_cond_t rfl ?_ | refine c_cond_f rfl ?_ | refine r_succ ?_ )
    (first | apply r_ret (b, cap) | apply r_end (b, cap)); exact rfl; exact rfl; exact (.tmp rfl .nil); exact rfl; exact (by exact (by (repeat (first | exact List.nil_sublist _ | exact List.Sublist.slnil | apply List.Sublist.cons_cons | exact List.Sublist.refl _ | apply List.Sublist.cons)))); exact (new_sl ho.newc (new_blk (.inl (by simp)) new_nil)); exact ⟨by dsimp only; omega, ho.max, ho.ob.imp (fun h => ⟨h.1, by omega⟩) id⟩
end Go.Proofs.Ytaccldkgopeggaa
namespace Go.Proofs.Ytaccldkgopeggaa
open Go Go.RowKit
set_option linter.unusedVariables false
set_option linter.unusedSimpArgs false
theorem stI_K {room : Nat} {Fs : Nat → Nat → Int} (hRB : ∀ i, i < 2 → RB (Fs i)) : ∀ i, i ≤ 2 → HdK (stI room Fs i) ∧ (stI room Fs i).cnt ≤ room
  | 0, _ => ⟨hdZ_K, by show (0 : Int) ≤ room; omega⟩
  | i + 1, hi => by
    have h1 := stI_K (room := room) hRB i (by omega)
    by_cases h : hdU room i (stI room Fs i) (Fs i)
    · rw [stI_y h]
      exact ⟨hdOf_K (hRB i (by omega)), h.2.1⟩
    · rw [stI_n h]; exact h1
set_option maxRecDepth 100000 in
set_option maxHeartbeats 4000000 in
theorem open_c (gd gw gm fr kn : Nat) (hk : 3 ≤ kn ∧ kn ≤ 16384) (Fs : Nat → Nat → Int) (D : Dk) (hgo : D.gone = false) (hn6 : D.secs.length ≤ 16384) (hfk : fr + kn ≤ D.secs.length) (hF : ∀ i, i < kn → D.secs[fr + i]? = some (Fs i)) (hRB : ∀ i, i < 2 → RB (Fs i)) (c : Nat) (hc : (stI ((kn - 2) * 64) Fs 2).cnt = c) (w : World) (hD : Has (DskL gd gw gm D) w) :
    CA Try.prog 9 [.pointer (some ⟨gd, 0, none⟩), .int .i64 (fr : Int), .int .i64 (kn : Int)] w (Ret (fun z : Nat × Option Addr × Nat => .tuple #[.pointer (some ⟨z.1, 0, none⟩), .int .i64 0]) [] (fun z => [.sl z.2.1 z.2.2 5 1 ((rmL Fs c).map (Value.int .u8)), LgB z.1 gd fr ((kn - 2) * 64) (stI ((kn - 2) * 64) Fs 2) (.slice z.2.1 c z.2.2) false]) (fun z => c ≤ z.2.2 ∧ z.2.2 ≤ 9223372036854775807 ∧ ((z.2.1 = none ∧ c = 0) ∨ ∃ g, z.2.1 = some ⟨g, 0, none⟩)) w) := by
  have hcr : c ≤ ((kn - 2) * 64) := by
    have h9 := (stI_K (room := ((kn - 2) * 64)) hRB 2 (Nat.le_refl _)).2
    omega
  refine enter (L := DskL gd gw gm D) (X := []) Try.func9 rfl Try.ntmps9 rfl rfl hD ?_
  repeat (first | refine c_seq ?_ | (refine c_region (id := 0) ?_; refine sq qa ?_; refine sq qa ?_; refine l_nil ?_) | (refine c_region (id := 1) ?_; refine sq qm ?_; refine sq (by first | exact dlsst | exact dlssf) ?_; refine sq qm ?_; (first | refine sk ?_ | refine skv ?_ | (refine st_want rfl rfl ?_; refine sq qm ?_)); (first | refine sk ?_ | refine skv ?_ | (refine st_want rfl rfl ?_; refine sq (by first | exact dlsst | exact dlssf) ?_)); refine sq (by first | exact qpt | exact qpf) ?_; refine sq qm ?_; (first | refine sk ?_ | refine skv ?_ | (refine st_want rfl rfl ?_; refine sq qm ?_)); (first | refine sk ?_ | refine skv ?_ | (refine st_want rfl rfl ?_; refine sq qm ?_)); (first | refine sk ?_ | refine skv ?_ | (refine st_want rfl rfl ?_; refine se ?_; refine ecp rfl rfl (fun w hC hm hL => by exact sect_c gd gw gm D w (hL.sub (by (repeat (first | exact List.nil_sublist _ | exact List.Sublist.slnil | apply List.Sublist.cons_cons | exact List.Sublist.refl _ | apply List.Sublist.cons))))) ?_; intro m' hm')); (first | refine sk ?_ | refine skv ?_ | (refine st_want rfl rfl ?_; refine sq (by first | exact dgtrt | exact dgtrf) ?_)); refine sq (by first | exact qpt | exact qpf) ?_; refine sq qm ?_; (first | refine sk ?_ | refine skv ?_ | (refine st_want rfl rfl ?_; refine sq qm ?_)); (first | refine sk ?_ | refine skv ?_ | (refine st_want rfl rfl ?_; refine sq qm ?_)); (first | refine sk ?_ | refine skv ?_ | (refine st_want rfl rfl ?_; refine se ?_; refine ecp rfl rfl (fun w hC hm hL => by exact sect_c gd gw gm D w (hL.sub (by (repeat (first | exact List.nil_sublist _ | exact List.Sublist.slnil | apply List.Sublist.cons_cons | exact List.Sublist.refl _ | apply List.Sublist.cons))))) ?_; intro m' hm')); (first | refine sk ?_ | refine skv ?_ | (refine st_want rfl rfl ?_; refine sq qm ?_)); (first | refine sk ?_ | refine skv ?_ | (refine st_want rfl rfl ?_; refine sq qsub64 ?_)); (first | refine sk ?_ | refine skv ?_ | (refine st_want rfl rfl ?_; refine sq (by first | exact dgtrt | exact dgtrf) ?_)); refine sq (by first | exact qpt | exact qpf) ?_; refine l_nil ?_) | (refine c_region (id := 3) ?_; refine sq qm ?_; refine sq qm ?_; refine sq qm ?_; refine sq (by exact Qt.cast (v' := .int .i64 (((kn - 2) : Nat) : Int)) (congrArg (Value.int .i64) (by omega)) (q_sub64 rfl rfl ⟨by omega, by omega⟩ rfl)) ?_; refine sq (by exact Qt.cast (v' := .int .i64 ((((kn - 2) * 64) : Nat) : Int)) (congrArg (Value.int .i64) (by omega)) (q_mul64 rfl rfl ⟨by omega, by omega⟩ rfl)) ?_; refine sq qbs ?_; refine se ?_; refine eb ?_; refine sq qa ?_; refine l_nil ?_) | refine n_then ?_ | refine c_block ?_ | refine c_skip ?_ | refine n_block ?_ | refine c_exit ?_ | refine n_then_exit ?_ | refine n_block_eq ?_ | refine n_block_ne rfl ?_ | refine c_ret ?_ | refine n_then_ret ?_ | refine n_block_ret ?_ | refine c_cond_t rfl ?_ | refine c_cond_f rfl ?_ | refine r_succ ?_ )
  obtain ⟨mb, hmb⟩ : ∃ mb, mb = m' := ⟨_, rfl⟩
  rw [← hmb]
  refine chg (L' := LgB mb gd fr ((kn - 2) * 64) hdZ (.slice none 0 0) false :: DskL gd gw gm D) (by rfl) ?_
  repeat (first | refine c_seq ?_ | (refine c_region (id := 4) ?_; refine sq qm ?_; refine se ?_; refine e_call_upd rfl rfl (by kernel_rfl) rfl (fun w hC hm hL => by exact heads_c mb gd gw gm fr ((kn - 2) * 64) (.slice none 0 0) false Fs (by omega) (by omega) D hgo hn6 (fun i hi => hF i (by omega)) (fun i hi => hRB i (by omega)) w (hL.sub (by (repeat (first | exact List.nil_sublist _ | exact List.Sublist.slnil | apply List.Sublist.cons_cons | exact List.Sublist.refl _ | apply List.Sublist.cons))))) (by (repeat (first | exact Pl.here | apply Pl.there))) (by first | (left; simp; done) | (right; omega)) ?_; intro m' hm'; refine sq qa ?_; refine l_nil ?_) | (refine c_region (id := 5) ?_; refine sq qm ?_; refine sq (by first | exact dneqt | exact dneqf) ?_; refine l_nil ?_) | (refine c_region (id := 7) ?_; refine sq qm ?_; refine se ?_; refine e_call (Y := [mb]) (L' := DskL gd gw gm D) rfl rfl (by kernel_rfl) rfl (fun w1 hC hm hL => by exact bytesR_c mb gd gw gm fr ((kn - 2) * 64) (stI ((kn - 2) * 64) Fs 2) false Fs c hc (by omega) (by omega) (by omega) D hgo hn6 (fun i hi => hF (2 + i) (by omega)) w1 (hL.sub (by (repeat (first | exact List.nil_sublist _ | exact List.Sublist.slnil | apply List.Sublist.cons_cons | exact List.Sublist.refl _ | apply List.Sublist.cons))))) (by simp; omega) (by exact (by (repeat (first | exact List.nil_sublist _ | exact List.Sublist.slnil | apply List.Sublist.cons_cons | exact List.Sublist.refl _ | apply List.Sublist.cons)))) (by intro g hg hm; rw [feetD] at hm; have h7 := hD.lt g (by rw [feetD]; exact hm); simp at hg; omega) ?_; intro z m4 hz hn4 hm4; obtain ⟨b4, cap4⟩ := z; dsimp only at hz hn4 ⊢; refine sq qa ?_; refine l_nil ?_) | (refine c_region (id := 8) ?_; refine sq qm ?_; refine sq (by first | exact dneqt | exact dneqf) ?_; refine l_nil ?_) | (refine c_region (id := 10) ?_; refine sq qm ?_; refine sq qa ?_; refine sq qa ?_; refine l_nil ?_) | refine n_then ?_ | refine c_block ?_ | refine c_skip ?_ | refine n_block ?_ | refine c_exit ?_ | refine n_then_exit ?_ | refine n_block_eq ?_ | refine n_block_ne rfl ?_ | refine c_ret ?_ | refine n_then_ret ?_ | refine n_block_ret ?_ | refine c_cond_t rfl ?_ | refine c_cond_f rfl ?_ | refine r_succ ?_ )
  (first | apply r_ret (mb, b4, cap4) | apply r_end (mb, b4, cap4)); exact rfl; exact rfl; exact (.tmp rfl (.tmp rfl .nil)); exact rfl; exact (by exact (by (repeat (first | exact List.nil_sublist _ | exact List.Sublist.slnil | apply List.Sublist.cons_cons | exact List.Sublist.refl _ | apply List.Sublist.cons)))); exact (by intro g hg; have h8 := hn4 g hg; simp at h8; exact .inr (by omega)); exact hz
end Go.Proofs.Ytaccldkgopeggaa
namespace Go.Proofs.Ytaccldkgopeggaa
open Go Go.RowKit
set_option linter.unusedVariables false
set_option linter.unusedSimpArgs false
def Dk.sy (D : Dk) : Bool × Dk := if D.pgone then (false, D.dead) else (true, D.lit.still)
def wrAll : List (Nat × (Nat → Int)) → Dk → Bool × Dk
  | [], D => D.sy
  | e :: l, D => if D.pgone then (false, D.dead) else wrAll l (D.lit.put e.1 e.2)
def secAt (xs : List Int) (q j : Nat) : Int := if j < 64 then (xs[64 * q + j]?).getD 0 else 0
def rmW (fr : Nat) (xs : List Int) : Nat → Nat → List (Nat × (Nat → Int))
  | 0, _ => []
  | k + 1, q => (fr + (2 + q), secAt xs q) :: rmW fr xs k (q + 1)
theorem sec_set (xs : List Int) (q : Nat) (h : 64 * q < xs.length) : setA (List.replicate 64 (Value.int .u8 0)).toArray 0 (((xs.drop (64 * q)).take 64).map (Value.int .u8)) = ((secL (secAt xs q) 64).map (Value.int .u8)).toArray := by
  apply Array.ext'
  rw [setA_toList _ _ _ (by simp; omega)]
  apply List.ext_getElem?
  intro j
  simp only [List.take_zero, List.nil_append, Nat.zero_add, List.length_map, List.length_take, List.length_drop]
  by_cases h6 : j < 64
  · have e1 : ((secL (secAt xs q) 64).map (Value.int .u8))[j]? = some ((Value.int .u8) (secAt xs q j)) := by simp [secL, h6]
    rw [e1]
    by_cases hj : 64 * q + j < xs.length
    · rw [List.getElem?_append_left (by simp; omega)]
      simp only [List.getElem?_map, List.getElem?_take, List.getElem?_drop, if_pos h6]
      simp only [secAt, if_pos h6, List.getElem?_eq_getElem hj, Option.map_some, Option.getD_some]
    · rw [List.getElem?_append_right (by simp; omega)]
      simp only [List.length_map, List.length_take, List.length_drop, List.getElem?_drop, List.getElem?_replicate]
      rw [if_pos (by omega)]
      simp only [secAt, if_pos h6, List.getElem?_eq_none (show xs.length ≤ 64 * q + j by omega), Option.getD_none]
  · rw [List.getElem?_eq_none (by simp; omega), List.getElem?_eq_none (by simp [secL_len]; omega)]
theorem secAt_RB {xs : List Int} (hx : ∀ x ∈ xs, 0 ≤ x ∧ x ≤ 255) (q : Nat) : RB (secAt xs q) := by
  refine ⟨fun j => ?_⟩
  unfold secAt
  split
  · cases h : xs[64 * q + j]? with
    | none => simp
    | some v => exact hx v (List.mem_of_getElem? h)
  · omega
theorem apart_blk {L' A : List Chunk} {g0 o1 : Nat} {ob : Obj} (hm : Chunk.blk g0 ob ∈ L') (h : ∀ g ∈ feet A, g ∉ feet L') : ∀ g o, some (⟨g0, o1, none⟩ : Addr) = some ⟨g, o, none⟩ → g ∉ feet A := by
  intro g o hb hg
  simp only [Option.some.injEq, Addr.mk.injEq, and_true] at hb
  exact h g hg (List.mem_flatMap.2 ⟨_, hm, by simp [Chunk.foot, hb.1]⟩)
def erC (b : Bool) : Int := if b then 0 else 5
set_option maxRecDepth 100000 in
set_option maxHeartbeats 4000000 in
theorem wroom_c (gl gd gw gm fr room : Nat) (h : Hd) (b0 : Option Addr) (len0 cap0 : Nat) (ov : Bool) (D : Dk) (nd : Nat) (hok : D.OK nd) (a : Option Addr) (n cap : Nat) (xs : List Int) (hn : xs.length = n) (hcap : n ≤ cap) (hn9 : n ≤ 2000000) (hln : len0 ≤ n) (hfit : fr + 2 + (n + 63) / 64 ≤ nd) (w : World) (hs : SlE (Value.int .u8) w a xs) (hx : ∀ g o, a = some ⟨g, o, none⟩ → g ∉ [gd, gw, gm]) (hL0 : Has (LgB gl gd fr room h (.slice b0 len0 cap0) ov :: DskL gd gw gm D) w) :
    CA Try.prog 33 [.pointer (some ⟨gl, 0, none⟩), .slice a n cap] w (Ret (fun _ : Unit => .int .i64 (erC (wrAll (rmW fr xs ((n + 63) / 64 - len0 / 64) (len0 / 64)) D).1)) [gd, gw, gm] (fun _ => DskL gd gw gm (wrAll (rmW fr xs ((n + 63) / 64 - len0 / 64) (len0 / 64)) D).2) (fun _ => True) w) := by
  have hnd := hok.n9
  obtain ⟨r, hr⟩ : ∃ r, r = wrAll (rmW fr xs ((n + 63) / 64 - len0 / 64) (len0 / 64)) D := ⟨_, rfl⟩
  rw [← hr]
  refine enter (L := (LgB gl gd fr room h (.slice b0 len0 cap0) ov :: DskL gd gw gm D)) (X := [gd, gw, gm]) Try.func33 rfl Try.ntmps33 rfl rfl hL0 ?_
  repeat (first | refine c_seq ?_ | (refine c_region (id := 0) ?_; refine sq qa ?_; refine l_nil ?_) | (refine c_region (id := 1) ?_; refine sq qm ?_; refine sq qn ?_; refine sq qf ?_; refine sq ql ?_; refine sq qls ?_; refine sq (by exact Qt.cast (v' := .int .i64 (((len0 / 64) : Nat) : Int)) (congrArg (Value.int .i64) (by omega)) (q_quo rfl rfl (by omega) (by omega) (by first | rfl | (simp only [IntKind.wrap_i64]; omega)))) ?_; refine sq (by exact Qt.cast (v' := .int .i64 ((64 * (len0 / 64) : Nat) : Int)) (congrArg (Value.int .i64) (by omega)) (q_mul64 rfl rfl ⟨by omega, by omega⟩ rfl)) ?_; refine sq qa ?_; refine l_nil ?_) | refine n_then ?_ | refine c_block ?_ | refine c_skip ?_ | refine n_block ?_ | refine c_exit ?_ | refine n_then_exit ?_ | refine n_block_eq ?_ | refine n_block_ne rfl ?_ | refine c_ret ?_ | refine n_then_ret ?_ | refine n_block_ret ?_ | refine c_cond_t rfl ?_ | refine c_cond_f rfl ?_ | refine r_succ ?_ )
  refine fgs (A := (DskL gd gw gm D ++ [LgB gl gd fr room h (.slice b0 len0 cap0) ov])) (R := []) (by (repeat (first | exact Sp.nil | (apply Sp.cons; focus (repeat (first | exact Rm.here | apply Rm.there)))))) ?_
  refine c_loop (γ := Nat × Dk × Nat) (fun z => [(5, .int .i64 ((64 * z.1 : Nat) : Int)), (0, .pointer (some ⟨gl, 0, none⟩)), (1, .slice a n cap), (4, .int .i64 0)]) (fun z => z.2.2) (fun z => (DskL gd gw gm z.2.1 ++ [LgB gl gd fr room h (.slice b0 len0 cap0) ov])) (fun z => z.1 ≤ (n + 63) / 64 ∧ z.2.1.OK nd ∧ wrAll (rmW fr xs ((n + 63) / 64 - z.1) z.1) z.2.1 = r ∧ w.heap.size ≤ z.2.2) (fun z => (n + 63) / 64 - z.1) ⟨len0 / 64, D, w.heap.size⟩ ⟨by dsimp only; omega, hok, hr.symm, Nat.le_refl _⟩ ⟨rfl, rfl, rfl, rfl, trivial⟩ rfl (List.Sublist.refl _) ?_
  rintro ⟨q, Dq, mm⟩ ⟨hq, hokq, hrq, hmm⟩
  dsimp only at hq hokq hrq hmm ⊢
  by_cases h8 : 64 * q < n
  · obtain ⟨gx, ox, rfl, hO⟩ := hs.get (i := 0) (by omega)
    have hgx := hx gx ox rfl
    have hOq : Old w gx (ox + 64 * q) (((xs.drop (64 * q)).take 64).map (Value.int .u8)) := by
      have h9 := (hO.drp (64 * q)).tak 64
      rwa [← List.map_drop, ← List.map_take] at h9
    obtain ⟨k9, hk9⟩ : ∃ k9, (n + 63) / 64 - q = k9 + 1 := ⟨(n + 63) / 64 - q - 1, by omega⟩
    have hk8 : (n + 63) / 64 - (q + 1) = k9 := by omega
    rw [hk9, rmW, wrAll] at hrq
    by_cases hpq : Dq.pgone = true
    · rw [if_pos hpq] at hrq
      subst hrq
      repeat (first | refine c_seq ?_ | (refine c_region (id := 2) ?_; refine sq qm ?_; refine sq qm ?_; refine sq qls ?_; refine sq (by first | exact dlsst | exact dlssf) ?_; refine l_nil ?_) | (refine c_region (id := 4) ?_; refine se ?_; refine ea ?_; refine l_nil ?_) | (refine x_region (id := 5) (some 4) [(0, .n), (1, .n), (2, .n), (3, .n), (4, .b)] _ mixed (by kernel_rfl) (List.Sublist.refl _) ?_; refine xn rfl qsa ?_; refine xn rfl qm ?_; refine xn rfl qm ?_; refine xn rfl (by exact qs (b' := some ⟨gx, ox + 64 * q, none⟩) (hb' := by rw [if_neg (by omega)]; simp [Addr.add_mid])) ?_; refine x_b rfl ?_; refine e_copy (cs := (List.replicate 64 (Value.int .u8 0)).toArray) (news := ((xs.drop (64 * q)).take 64).map (Value.int .u8)) (k := min (n - 64 * q) 64) rfl rfl rfl (RdN.old hOq hgx) (by simp [hn]; omega) (allOne_u8L _) (by rw [sec_set _ _ (by omega)]; (repeat (first | exact Pl.here | apply Pl.there))) (by simp [hn]; omega) (by first | (left; simp; done) | (right; omega)) (by simp [hn]; omega) ?_; refine x_k (List.nil_sublist _) ?_; refine x_nil ?_) | refine n_then ?_ | refine c_block ?_ | refine c_skip ?_ | refine n_block ?_ | refine c_exit ?_ | refine n_then_exit ?_ | refine n_block_eq ?_ | refine n_block_ne rfl ?_ | refine c_ret ?_ | refine n_then_ret ?_ | refine n_block_ret ?_ | refine c_cond_t rfl ?_ | refine c_cond_f rfl ?_ | refine r_succ ?_ )
      repeat (first | refine c_seq ?_ | (refine x_region (id := 6) none [(0, .n), (1, .n), (2, .n), (3, .q), (4, .n), (5, .n), (6, .n), (7, .q), (8, .n), (9, .n), (10, .n), (11, .n), (12, .n), (13, .e), (14, .n)] [LgB gl gd fr room h (.slice b0 len0 cap0) ov] mixed (by kernel_rfl) (by (repeat (first | exact List.nil_sublist _ | exact List.Sublist.slnil | apply List.Sublist.cons_cons | exact List.Sublist.refl _ | apply List.Sublist.cons))) ?_; refine xn rfl qm ?_; refine xn rfl qn ?_; refine xn rfl qf ?_; refine xq rfl ql ?_; refine xn rfl qm ?_; refine xn rfl qn ?_; refine xn rfl qf ?_; refine xq rfl ql ?_; refine xn rfl qadd64 ?_; refine xn rfl qm ?_; refine xn rfl (by exact Qt.cast (v' := .int .i64 ((q : Nat) : Int)) (congrArg (Value.int .i64) (by omega)) (q_quo rfl rfl (by omega) (by omega) (by first | rfl | (simp only [IntKind.wrap_i64]; omega)))) ?_; refine xn rfl (by exact Qt.cast (v' := .int .i64 ((fr + (2 + q) : Nat) : Int)) (congrArg (Value.int .i64) (by omega)) (q_add64 rfl rfl ⟨by omega, by omega⟩ rfl)) ?_; refine xn rfl qsa ?_; refine x_e rfl ?_; refine e_callX (DskL gd gw gm Dq) _ rfl rfl (by kernel_rfl) rfl (by (repeat (first | exact Sp.nil | (apply Sp.cons; focus (repeat (first | exact Rm.here | apply Rm.there)))))) (fun w hC hm hA hL hap => by exact wr_lost gd gw gm Dq hokq.hf hpq (fr + (2 + q)) (by rw [hokq.len]; omega) _ _ w hA) (by intro g hg; rw [feetD] at hg; exact .inl hg) (fun _ => rfl) ?_; intro _ m6 _ _ hm6; refine xk ?_; refine xn rfl qa ?_; refine x_nil ?_) | (refine c_region (id := 7) ?_; refine sq qm ?_; refine sq (by first | exact dneqt | exact dneqf) ?_; refine l_nil ?_) | (refine c_region (id := 8) ?_; refine sq qm ?_; refine sq qa ?_; refine l_nil ?_) | refine n_then ?_ | refine c_block ?_ | refine c_skip ?_ | refine n_block ?_ | refine c_exit ?_ | refine n_then_exit ?_ | refine n_block_eq ?_ | refine n_block_ne rfl ?_ | refine c_ret ?_ | refine n_then_ret ?_ | refine n_block_ret ?_ | refine c_cond_t rfl ?_ | refine c_cond_f rfl ?_ | refine r_succ ?_ )
      (first | apply r_ret () | apply r_end ()); exact rfl; exact rfl; exact (.tmp rfl .nil); exact rfl; exact (by exact (by (repeat (first | exact List.nil_sublist _ | exact List.Sublist.slnil | apply List.Sublist.cons_cons | exact List.Sublist.refl _ | apply List.Sublist.cons)))); exact (by intro g hg; rw [feetD] at hg; exact .inl hg); exact trivial
    · have hpq : Dq.pgone = false := by simpa using hpq
      rw [if_neg (by simp [hpq])] at hrq
      have hok2 := (hokq.lit hpq).put (fr + (2 + q)) (by omega) (secAt xs q)
      repeat (first | refine c_seq ?_ | (refine c_region (id := 2) ?_; refine sq qm ?_; refine sq qm ?_; refine sq qls ?_; refine sq (by first | exact dlsst | exact dlssf) ?_; refine l_nil ?_) | (refine c_region (id := 4) ?_; refine se ?_; refine ea ?_; refine l_nil ?_) | (refine x_region (id := 5) (some 4) [(0, .n), (1, .n), (2, .n), (3, .n), (4, .b)] _ mixed (by kernel_rfl) (List.Sublist.refl _) ?_; refine xn rfl qsa ?_; refine xn rfl qm ?_; refine xn rfl qm ?_; refine xn rfl (by exact qs (b' := some ⟨gx, ox + 64 * q, none⟩) (hb' := by rw [if_neg (by omega)]; simp [Addr.add_mid])) ?_; refine x_b rfl ?_; refine e_copy (cs := (List.replicate 64 (Value.int .u8 0)).toArray) (news := ((xs.drop (64 * q)).take 64).map (Value.int .u8)) (k := min (n - 64 * q) 64) rfl rfl rfl (RdN.old hOq hgx) (by simp [hn]; omega) (allOne_u8L _) (by rw [sec_set _ _ (by omega)]; (repeat (first | exact Pl.here | apply Pl.there))) (by simp [hn]; omega) (by first | (left; simp; done) | (right; omega)) (by simp [hn]; omega) ?_; refine x_k (List.nil_sublist _) ?_; refine x_nil ?_) | refine n_then ?_ | refine c_block ?_ | refine c_skip ?_ | refine n_block ?_ | refine c_exit ?_ | refine n_then_exit ?_ | refine n_block_eq ?_ | refine n_block_ne rfl ?_ | refine c_ret ?_ | refine n_then_ret ?_ | refine n_block_ret ?_ | refine c_cond_t rfl ?_ | refine c_cond_f rfl ?_ | refine r_succ ?_ )
      repeat (first | refine c_seq ?_ | (refine c_region (id := 3) ?_; refine sq qm ?_; refine sq (by exact Qt.cast (v' := .int .i64 ((64 * (q + 1) : Nat) : Int)) (congrArg (Value.int .i64) (by omega)) (q_add64 rfl rfl ⟨by omega, by omega⟩ rfl)) ?_; refine sq qa ?_; refine l_nil ?_) | (refine x_region (id := 6) none [(0, .n), (1, .n), (2, .n), (3, .q), (4, .n), (5, .n), (6, .n), (7, .q), (8, .n), (9, .n), (10, .n), (11, .n), (12, .n), (13, .e), (14, .n)] [LgB gl gd fr room h (.slice b0 len0 cap0) ov] mixed (by kernel_rfl) (by (repeat (first | exact List.nil_sublist _ | exact List.Sublist.slnil | apply List.Sublist.cons_cons | exact List.Sublist.refl _ | apply List.Sublist.cons))) ?_; refine xn rfl qm ?_; refine xn rfl qn ?_; refine xn rfl qf ?_; refine xq rfl ql ?_; refine xn rfl qm ?_; refine xn rfl qn ?_; refine xn rfl qf ?_; refine xq rfl ql ?_; refine xn rfl qadd64 ?_; refine xn rfl qm ?_; refine xn rfl (by exact Qt.cast (v' := .int .i64 ((q : Nat) : Int)) (congrArg (Value.int .i64) (by omega)) (q_quo rfl rfl (by omega) (by omega) (by first | rfl | (simp only [IntKind.wrap_i64]; omega)))) ?_; refine xn rfl (by exact Qt.cast (v' := .int .i64 ((fr + (2 + q) : Nat) : Int)) (congrArg (Value.int .i64) (by omega)) (q_add64 rfl rfl ⟨by omega, by omega⟩ rfl)) ?_; refine xn rfl qsa ?_; refine x_e rfl ?_; refine e_callX (DskL gd gw gm Dq) _ rfl rfl (by kernel_rfl) rfl (by (repeat (first | exact Sp.nil | (apply Sp.cons; focus (repeat (first | exact Rm.here | apply Rm.there)))))) (fun w hC hm hA hL hap => by exact wr_ok gd gw gm Dq hokq.hf hpq hokq.le (fr + (2 + q)) (by rw [hokq.len]; omega) (secAt xs q) (some ⟨_, 0, none⟩) 64 w (SlE.blk hL (by (repeat (first | exact List.Mem.head _ | apply List.Mem.tail))) 0 64 (by rw [List.drop_zero]; exact List.take_of_length_le (by simp [secL_len]))) (apart_blk (by (repeat (first | exact List.Mem.head _ | apply List.Mem.tail))) hap) hA) (by intro g hg; rw [feetD] at hg; exact .inl hg) (fun _ => rfl) ?_; intro _ m6 _ _ hm6; refine xk ?_; refine xn rfl qa ?_; refine x_nil ?_) | (refine c_region (id := 7) ?_; refine sq qm ?_; refine sq (by first | exact dneqt | exact dneqf) ?_; refine l_nil ?_) | refine n_then ?_ | refine c_block ?_ | refine c_skip ?_ | refine n_block ?_ | refine c_exit ?_ | refine n_then_exit ?_ | refine n_block_eq ?_ | refine n_block_ne rfl ?_ | refine c_ret ?_ | refine n_then_ret ?_ | refine n_block_ret ?_ | refine c_cond_t rfl ?_ | refine c_cond_f rfl ?_ | refine r_succ ?_ )
      refine c_round ⟨q + 1, Dq.lit.put (fr + (2 + q)) (secAt xs q), m6⟩ ⟨by dsimp only; omega, hok2, by dsimp only; rw [hk8]; exact hrq, by dsimp only; omega⟩ (by dsimp only; omega) ⟨rfl, rfl, rfl, rfl, trivial⟩ (by rfl) (by exact (by (repeat (first | exact List.nil_sublist _ | exact List.Sublist.slnil | apply List.Sublist.cons_cons | exact List.Sublist.refl _ | apply List.Sublist.cons))))
  · have hk9 : (n + 63) / 64 - q = 0 := by omega
    rw [hk9, rmW, wrAll, Dk.sy] at hrq
    by_cases hpq : Dq.pgone = true
    · rw [if_pos hpq] at hrq
      subst hrq
      repeat (first | refine c_seq ?_ | (refine c_region (id := 2) ?_; refine sq qm ?_; refine sq qm ?_; refine sq qls ?_; refine sq (by first | exact dlsst | exact dlssf) ?_; refine l_nil ?_) | (refine c_region (id := 9) ?_; refine sq qm ?_; refine sq qn ?_; refine sq qf ?_; refine sq ql ?_; refine se ?_; refine e_callX (DskL gd gw gm Dq) _ rfl rfl (by kernel_rfl) rfl (by (repeat (first | exact Sp.nil | (apply Sp.cons; focus (repeat (first | exact Rm.here | apply Rm.there)))))) (fun w hC hm hA hL hap => by exact sync_lost gd gw gm Dq hokq.hf hpq w hA) (by intro g hg; rw [feetD] at hg; exact .inl hg) (fun _ => rfl) ?_; intro _ m6 _ _ hm6; refine sq qa ?_; refine l_nil ?_) | refine n_then ?_ | refine c_block ?_ | refine c_skip ?_ | refine n_block ?_ | refine c_exit ?_ | refine n_then_exit ?_ | refine n_block_eq ?_ | refine n_block_ne rfl ?_ | refine c_ret ?_ | refine n_then_ret ?_ | refine n_block_ret ?_ | refine c_cond_t rfl ?_ | refine c_cond_f rfl ?_ | refine r_succ ?_ )
      (first | apply r_ret () | apply r_end ()); exact rfl; exact rfl; exact (.tmp rfl .nil); exact rfl; exact (by exact (by (repeat (first | exact List.nil_sublist _ | exact List.Sublist.slnil | apply List.Sublist.cons_cons | exact List.Sublist.refl _ | apply List.Sublist.cons)))); exact (by intro g hg; rw [feetD] at hg; exact .inl hg); exact trivial
    · have hpq : Dq.pgone = false := by simpa using hpq
      rw [if_neg (by simp [hpq])] at hrq
      subst hrq
      repeat (first | refine c_seq ?_ | (refine c_region (id := 2) ?_; refine sq qm ?_; refine sq qm ?_; refine sq qls ?_; refine sq (by first | exact dlsst | exact dlssf) ?_; refine l_nil ?_) | (refine c_region (id := 9) ?_; refine sq qm ?_; refine sq qn ?_; refine sq qf ?_; refine sq ql ?_; refine se ?_; refine e_callX (DskL gd gw gm Dq) _ rfl rfl (by kernel_rfl) rfl (by (repeat (first | exact Sp.nil | (apply Sp.cons; focus (repeat (first | exact Rm.here | apply Rm.there)))))) (fun w hC hm hA hL hap => by exact sync_ok gd gw gm Dq hokq.hf hpq w hA) (by intro g hg; rw [feetD] at hg; exact .inl hg) (fun _ => rfl) ?_; intro _ m6 _ _ hm6; refine sq qa ?_; refine l_nil ?_) | refine n_then ?_ | refine c_block ?_ | refine c_skip ?_ | refine n_block ?_ | refine c_exit ?_ | refine n_then_exit ?_ | refine n_block_eq ?_ | refine n_block_ne rfl ?_ | refine c_ret ?_ | refine n_then_ret ?_ | refine n_block_ret ?_ | refine c_cond_t rfl ?_ | refine c_cond_f rfl ?_ | refine r_succ ?_ )
      (first | apply r_ret () | apply r_end ()); exact rfl; exact rfl; exact (.tmp rfl .nil); exact rfl; exact (by exact (by (repeat (first | exact List.nil_sublist _ | exact List.Sublist.slnil | apply List.Sublist.cons_cons | exact List.Sublist.refl _ | apply List.Sublist.cons)))); exact (by intro g hg; rw [feetD] at hg; exact .inl hg); exact trivial
end Go.Proofs.Ytaccldkgopeggaa
namespace Go.Proofs.Ytaccldkgopeggaa
open Go Go.RowKit
set_option linter.unusedVariables false
set_option linter.unusedSimpArgs false
set_option maxRecDepth 100000 in
set_option maxHeartbeats 4000000 in
theorem become_0 (gl gd gw gm fr room : Nat) (h h' : Hd) (s : Value) (D : Dk) (nd : Nat) (hok : D.OK nd) (b : Option Addr) (n cap : Nat) (hn9 : n ≤ 2000000) (hser : 0 ≤ h.ser ∧ h.ser < 4611686018427387904) (h1 : h'.ser = h.ser + 1) (h2 : h'.cnt = n) (p : Nat) (hp : (p : Int) = h'.ser % 2) (hfit : fr + 2 ≤ nd) (hp0 : D.pgone = true) (w : World) (hL0 : Has (LgB gl gd fr room h s false :: DskL gd gw gm D) w) :
    CA Try.prog 32 [.pointer (some ⟨gl, 0, none⟩), .slice b n cap, .agg (noteE h'.nt).toArray] w (Ret (fun _ : Unit => .int .i64 5) [gl, gd, gw, gm] (fun _ => (LgB gl gd fr room h s true :: DskL gd gw gm D.dead)) (fun _ => True) w) := by
  have hnd := hok.n9
  refine enter (L := (LgB gl gd fr room h s false :: DskL gd gw gm D)) (X := [gl, gd, gw, gm]) Try.func32 rfl Try.ntmps32 rfl rfl hL0 ?_
  repeat (first | refine c_seq ?_ | (refine c_region (id := 0) ?_; refine se ?_; refine eb ?_; refine sq qa ?_; refine l_nil ?_) | (refine x_region (id := 1) (some 12) [(0, .n), (1, .n), (2, .n), (3, .n), (4, .q), (5, .n), (6, .n), (7, .n), (8, .n), (9, .q), (10, .n), (11, .e), (12, .b)] _ mixed (by kernel_rfl) (List.Sublist.refl _) ?_; refine xn rfl qm ?_; refine xn rfl qn ?_; refine xn rfl qf ?_; refine xn rfl qf ?_; refine xq rfl ql ?_; refine xn rfl (by exact Qt.cast (v' := .int .u64 h'.ser) (congrArg (Value.int .u64) (by omega)) (q_addU rfl rfl)) ?_; refine xn rfl qm ?_; refine xn rfl qls ?_; refine xn rfl (by exact Qt.cast (v' := .int .u64 h'.cnt) (congrArg (Value.int .u64) (by omega)) (q_convU rfl)) ?_; refine xq rfl (by exact qlb (hl := by rfl)) ?_; refine xn rfl qbs ?_; refine x_e rfl ?_; refine ea ?_; refine xk ?_; refine x_b rfl ?_; refine esa ?_ (hk := by rfl) (ho := by rfl) (hoff := by rfl); refine x_k (List.nil_sublist _) ?_; refine x_nil ?_) | refine n_then ?_ | refine c_block ?_ | refine c_skip ?_ | refine n_block ?_ | refine c_exit ?_ | refine n_then_exit ?_ | refine n_block_eq ?_ | refine n_block_ne rfl ?_ | refine c_ret ?_ | refine n_then_ret ?_ | refine n_block_ret ?_ | refine c_cond_t rfl ?_ | refine c_cond_f rfl ?_ | refine r_succ ?_ )
  repeat (first | refine c_seq ?_ | (refine x_region (id := 2) none [(0, .n), (1, .n), (2, .n), (3, .q), (4, .n), (5, .n), (6, .n), (7, .q), (8, .q), (11, .q), (9, .e), (10, .n), (12, .e), (13, .e), (14, .n)] [.blk (w.heap.size + 1) (.cells (headE h').toArray 63 (0, 0)), LgB gl gd fr room h s false] mixed (by kernel_rfl) (by (repeat (first | exact List.nil_sublist _ | exact List.Sublist.slnil | apply List.Sublist.cons_cons | exact List.Sublist.refl _ | apply List.Sublist.cons))) ?_; refine xn rfl qm ?_; refine xn rfl qn ?_; refine xn rfl qf ?_; refine xq rfl ql ?_; refine xn rfl qm ?_; refine xn rfl qn ?_; refine xn rfl qf ?_; refine xq rfl ql ?_; refine xq rfl (by exact qlb (hl := by rfl)) ?_; refine xq rfl (by exact qlb (hl := by rfl)) ?_; refine x_e rfl ?_; refine ecp rfl rfl (fun w hC hm hL => by exact place_c h' (by omega) w) ?_; intro m' hm'; refine xk ?_; refine xn rfl (by exact Qt.cast (v' := .int .i64 ((fr + p : Nat) : Int)) (congrArg (Value.int .i64) (by omega)) (q_add64 rfl rfl ⟨by omega, by omega⟩ rfl)) ?_; refine x_e rfl ?_; refine e_callL (enc := (Value.int .u8)) (e := 5) rfl rfl (by kernel_rfl) rfl (fun w hC hm hL => by exact sector_c h' w) ?_; intro b1 cap1 zs1 m1 hz1 ho1 hm1; subst hz1; rw [secL_len] at ho1; simp only [secL_len]; refine xk ?_; refine x_e rfl ?_; refine e_callX (DskL gd gw gm D) _ rfl rfl (by kernel_rfl) rfl (by (repeat (first | exact Sp.nil | (apply Sp.cons; focus (repeat (first | exact Rm.here | apply Rm.there)))))) (fun w hC hm hA hL hap => by exact wr_lost gd gw gm D hok.hf hp0 (fr + p) (by rw [hok.len]; omega) _ _ w hA) (by intro g hg; rw [feetD] at hg; exact .inl (by simp at hg ⊢; omega)) (fun _ => rfl) ?_; intro _ m6 _ _ hm6; refine xk ?_; refine xn rfl qa ?_; refine x_nil ?_) | (refine c_region (id := 3) ?_; refine sq qm ?_; refine sq (by first | exact dneqt | exact dneqf) ?_; refine l_nil ?_) | (refine c_region (id := 4) ?_; refine sq qm ?_; refine se ?_; refine e_call_upd rfl rfl (by kernel_rfl) rfl (fun w hC hm hL => by exact end_c gl gd fr room h s false w (hL.sub (by (repeat (first | exact List.nil_sublist _ | exact List.Sublist.slnil | apply List.Sublist.cons_cons | exact List.Sublist.refl _ | apply List.Sublist.cons))))) (by (repeat (first | exact Pl.here | apply Pl.there))) (.inl (by simp)) ?_; intro m' hm'; refine sq qa ?_; refine l_nil ?_) | refine n_then ?_ | refine c_block ?_ | refine c_skip ?_ | refine n_block ?_ | refine c_exit ?_ | refine n_then_exit ?_ | refine n_block_eq ?_ | refine n_block_ne rfl ?_ | refine c_ret ?_ | refine n_then_ret ?_ | refine n_block_ret ?_ | refine c_cond_t rfl ?_ | refine c_cond_f rfl ?_ | refine r_succ ?_ )
  refine fgs (A := (LgB gl gd fr room h s true :: DskL gd gw gm D.dead)) (by (repeat (first | exact Sp.nil | (apply Sp.cons; focus (repeat (first | exact Rm.here | apply Rm.there)))))) ?_
  (first | apply r_ret () | apply r_end ()); exact rfl; exact rfl; exact (.tmp rfl .nil); exact rfl; exact (List.Sublist.refl _); exact (by intro g hg; simp [feet, Chunk.foot] at hg; exact .inl (by simp; omega)); exact trivial
set_option maxRecDepth 100000 in
set_option maxHeartbeats 4000000 in
theorem become_1 (gl gd gw gm fr room : Nat) (h h' : Hd) (s : Value) (D : Dk) (nd : Nat) (hok : D.OK nd) (b : Option Addr) (n cap : Nat) (hn9 : n ≤ 2000000) (hser : 0 ≤ h.ser ∧ h.ser < 4611686018427387904) (h1 : h'.ser = h.ser + 1) (h2 : h'.cnt = n) (p : Nat) (hp : (p : Int) = h'.ser % 2) (hfit : fr + 2 ≤ nd) (hp0 : D.pgone = false) (hp1 : (D.lit.put (fr + p) (secH h')).pgone = true) (w : World) (hL0 : Has (LgB gl gd fr room h s false :: DskL gd gw gm D) w) :
    CA Try.prog 32 [.pointer (some ⟨gl, 0, none⟩), .slice b n cap, .agg (noteE h'.nt).toArray] w (Ret (fun _ : Unit => .int .i64 5) [gl, gd, gw, gm] (fun _ => (LgB gl gd fr room h s true :: DskL gd gw gm (D.lit.put (fr + p) (secH h')).dead)) (fun _ => True) w) := by
  have hok1 := (hok.lit hp0).put (fr + p) (by omega) (secH h')
  have hnd := hok.n9
  refine enter (L := (LgB gl gd fr room h s false :: DskL gd gw gm D)) (X := [gl, gd, gw, gm]) Try.func32 rfl Try.ntmps32 rfl rfl hL0 ?_
  repeat (first | refine c_seq ?_ | (refine c_region (id := 0) ?_; refine se ?_; refine eb ?_; refine sq qa ?_; refine l_nil ?_) | (refine x_region (id := 1) (some 12) [(0, .n), (1, .n), (2, .n), (3, .n), (4, .q), (5, .n), (6, .n), (7, .n), (8, .n), (9, .q), (10, .n), (11, .e), (12, .b)] _ mixed (by kernel_rfl) (List.Sublist.refl _) ?_; refine xn rfl qm ?_; refine xn rfl qn ?_; refine xn rfl qf ?_; refine xn rfl qf ?_; refine xq rfl ql ?_; refine xn rfl (by exact Qt.cast (v' := .int .u64 h'.ser) (congrArg (Value.int .u64) (by omega)) (q_addU rfl rfl)) ?_; refine xn rfl qm ?_; refine xn rfl qls ?_; refine xn rfl (by exact Qt.cast (v' := .int .u64 h'.cnt) (congrArg (Value.int .u64) (by omega)) (q_convU rfl)) ?_; refine xq rfl (by exact qlb (hl := by rfl)) ?_; refine xn rfl qbs ?_; refine x_e rfl ?_; refine ea ?_; refine xk ?_; refine x_b rfl ?_; refine esa ?_ (hk := by rfl) (ho := by rfl) (hoff := by rfl); refine x_k (List.nil_sublist _) ?_; refine x_nil ?_) | refine n_then ?_ | refine c_block ?_ | refine c_skip ?_ | refine n_block ?_ | refine c_exit ?_ | refine n_then_exit ?_ | refine n_block_eq ?_ | refine n_block_ne rfl ?_ | refine c_ret ?_ | refine n_then_ret ?_ | refine n_block_ret ?_ | refine c_cond_t rfl ?_ | refine c_cond_f rfl ?_ | refine r_succ ?_ )
  repeat (first | refine c_seq ?_ | (refine x_region (id := 2) none [(0, .n), (1, .n), (2, .n), (3, .q), (4, .n), (5, .n), (6, .n), (7, .q), (8, .q), (11, .q), (9, .e), (10, .n), (12, .e), (13, .e), (14, .n)] [.blk (w.heap.size + 1) (.cells (headE h').toArray 63 (0, 0)), LgB gl gd fr room h s false] mixed (by kernel_rfl) (by (repeat (first | exact List.nil_sublist _ | exact List.Sublist.slnil | apply List.Sublist.cons_cons | exact List.Sublist.refl _ | apply List.Sublist.cons))) ?_; refine xn rfl qm ?_; refine xn rfl qn ?_; refine xn rfl qf ?_; refine xq rfl ql ?_; refine xn rfl qm ?_; refine xn rfl qn ?_; refine xn rfl qf ?_; refine xq rfl ql ?_; refine xq rfl (by exact qlb (hl := by rfl)) ?_; refine xq rfl (by exact qlb (hl := by rfl)) ?_; refine x_e rfl ?_; refine ecp rfl rfl (fun w hC hm hL => by exact place_c h' (by omega) w) ?_; intro m' hm'; refine xk ?_; refine xn rfl (by exact Qt.cast (v' := .int .i64 ((fr + p : Nat) : Int)) (congrArg (Value.int .i64) (by omega)) (q_add64 rfl rfl ⟨by omega, by omega⟩ rfl)) ?_; refine x_e rfl ?_; refine e_callL (enc := (Value.int .u8)) (e := 5) rfl rfl (by kernel_rfl) rfl (fun w hC hm hL => by exact sector_c h' w) ?_; intro b1 cap1 zs1 m1 hz1 ho1 hm1; subst hz1; rw [secL_len] at ho1; simp only [secL_len]; refine xk ?_; refine x_e rfl ?_; refine e_callX (DskL gd gw gm D) _ rfl rfl (by kernel_rfl) rfl (by (repeat (first | exact Sp.nil | (apply Sp.cons; focus (repeat (first | exact Rm.here | apply Rm.there)))))) (fun w hC hm hA hL hap => by exact wr_ok gd gw gm D hok.hf hp0 hok.le (fr + p) (by rw [hok.len]; omega) (secH h') _ _ w (SlE.own hL (by (repeat (first | exact List.Mem.head _ | apply List.Mem.tail))) ho1) (apart_sl (by (repeat (first | exact List.Mem.head _ | apply List.Mem.tail))) hap) hA) (by intro g hg; rw [feetD] at hg; exact .inl (by simp at hg ⊢; omega)) (fun _ => rfl) ?_; intro _ m6 _ _ hm6; refine xk ?_; refine xn rfl qa ?_; refine x_nil ?_) | (refine c_region (id := 3) ?_; refine sq qm ?_; refine sq (by first | exact dneqt | exact dneqf) ?_; refine l_nil ?_) | (refine c_region (id := 5) ?_; refine sq qm ?_; refine sq qn ?_; refine sq qf ?_; refine sq ql ?_; refine se ?_; refine e_callX (DskL gd gw gm (D.lit.put (fr + p) (secH h'))) _ rfl rfl (by kernel_rfl) rfl (by (repeat (first | exact Sp.nil | (apply Sp.cons; focus (repeat (first | exact Rm.here | apply Rm.there)))))) (fun w hC hm hA hL hap => by exact sync_lost gd gw gm (D.lit.put (fr + p) (secH h')) hok1.hf hp1 w hA) (by intro g hg; rw [feetD] at hg; exact .inl (by simp at hg ⊢; omega)) (fun _ => rfl) ?_; intro _ m7 _ _ hm7; refine sq qa ?_; refine l_nil ?_) | (refine c_region (id := 6) ?_; refine sq qm ?_; refine sq (by first | exact dneqt | exact dneqf) ?_; refine l_nil ?_) | (refine c_region (id := 7) ?_; refine sq qm ?_; refine se ?_; refine e_call_upd rfl rfl (by kernel_rfl) rfl (fun w hC hm hL => by exact end_c gl gd fr room h s false w (hL.sub (by (repeat (first | exact List.nil_sublist _ | exact List.Sublist.slnil | apply List.Sublist.cons_cons | exact List.Sublist.refl _ | apply List.Sublist.cons))))) (by (repeat (first | exact Pl.here | apply Pl.there))) (.inl (by simp)) ?_; intro m' hm'; refine sq qa ?_; refine l_nil ?_) | refine n_then ?_ | refine c_block ?_ | refine c_skip ?_ | refine n_block ?_ | refine c_exit ?_ | refine n_then_exit ?_ | refine n_block_eq ?_ | refine n_block_ne rfl ?_ | refine c_ret ?_ | refine n_then_ret ?_ | refine n_block_ret ?_ | refine c_cond_t rfl ?_ | refine c_cond_f rfl ?_ | refine r_succ ?_ )
  refine fgs (A := (LgB gl gd fr room h s true :: DskL gd gw gm (D.lit.put (fr + p) (secH h')).dead)) (by (repeat (first | exact Sp.nil | (apply Sp.cons; focus (repeat (first | exact Rm.here | apply Rm.there)))))) ?_
  (first | apply r_ret () | apply r_end ()); exact rfl; exact rfl; exact (.tmp rfl .nil); exact rfl; exact (List.Sublist.refl _); exact (by intro g hg; simp [feet, Chunk.foot] at hg; exact .inl (by simp; omega)); exact trivial
set_option maxRecDepth 100000 in
set_option maxHeartbeats 4000000 in
theorem become_2 (gl gd gw gm fr room : Nat) (h h' : Hd) (s : Value) (D : Dk) (nd : Nat) (hok : D.OK nd) (b : Option Addr) (n cap : Nat) (hn9 : n ≤ 2000000) (hser : 0 ≤ h.ser ∧ h.ser < 4611686018427387904) (h1 : h'.ser = h.ser + 1) (h2 : h'.cnt = n) (p : Nat) (hp : (p : Int) = h'.ser % 2) (hfit : fr + 2 ≤ nd) (hp0 : D.pgone = false) (hp1 : (D.lit.put (fr + p) (secH h')).pgone = false) (w : World) (hL0 : Has (LgB gl gd fr room h s false :: DskL gd gw gm D) w) :
    CA Try.prog 32 [.pointer (some ⟨gl, 0, none⟩), .slice b n cap, .agg (noteE h'.nt).toArray] w (Ret (fun _ : Unit => .int .i64 0) [gl, gd, gw, gm] (fun _ => (LgB gl gd fr room h' (.slice b n cap) false :: DskL gd gw gm (D.lit.put (fr + p) (secH h')).lit.still)) (fun _ => True) w) := by
  have hok1 := (hok.lit hp0).put (fr + p) (by omega) (secH h')
  have hnd := hok.n9
  refine enter (L := (LgB gl gd fr room h s false :: DskL gd gw gm D)) (X := [gl, gd, gw, gm]) Try.func32 rfl Try.ntmps32 rfl rfl hL0 ?_
  repeat (first | refine c_seq ?_ | (refine c_region (id := 0) ?_; refine se ?_; refine eb ?_; refine sq qa ?_; refine l_nil ?_) | (refine x_region (id := 1) (some 12) [(0, .n), (1, .n), (2, .n), (3, .n), (4, .q), (5, .n), (6, .n), (7, .n), (8, .n), (9, .q), (10, .n), (11, .e), (12, .b)] _ mixed (by kernel_rfl) (List.Sublist.refl _) ?_; refine xn rfl qm ?_; refine xn rfl qn ?_; refine xn rfl qf ?_; refine xn rfl qf ?_; refine xq rfl ql ?_; refine xn rfl (by exact Qt.cast (v' := .int .u64 h'.ser) (congrArg (Value.int .u64) (by omega)) (q_addU rfl rfl)) ?_; refine xn rfl qm ?_; refine xn rfl qls ?_; refine xn rfl (by exact Qt.cast (v' := .int .u64 h'.cnt) (congrArg (Value.int .u64) (by omega)) (q_convU rfl)) ?_; refine xq rfl (by exact qlb (hl := by rfl)) ?_; refine xn rfl qbs ?_; refine x_e rfl ?_; refine ea ?_; refine xk ?_; refine x_b rfl ?_; refine esa ?_ (hk := by rfl) (ho := by rfl) (hoff := by rfl); refine x_k (List.nil_sublist _) ?_; refine x_nil ?_) | refine n_then ?_ | refine c_block ?_ | refine c_skip ?_ | refine n_block ?_ | refine c_exit ?_ | refine n_then_exit ?_ | refine n_block_eq ?_ | refine n_block_ne rfl ?_ | refine c_ret ?_ | refine n_then_ret ?_ | refine n_block_ret ?_ | refine c_cond_t rfl ?_ | refine c_cond_f rfl ?_ | refine r_succ ?_ )
  repeat (first | refine c_seq ?_ | (refine x_region (id := 2) none [(0, .n), (1, .n), (2, .n), (3, .q), (4, .n), (5, .n), (6, .n), (7, .q), (8, .q), (11, .q), (9, .e), (10, .n), (12, .e), (13, .e), (14, .n)] [.blk (w.heap.size + 1) (.cells (headE h').toArray 63 (0, 0)), LgB gl gd fr room h s false] mixed (by kernel_rfl) (by (repeat (first | exact List.nil_sublist _ | exact List.Sublist.slnil | apply List.Sublist.cons_cons | exact List.Sublist.refl _ | apply List.Sublist.cons))) ?_; refine xn rfl qm ?_; refine xn rfl qn ?_; refine xn rfl qf ?_; refine xq rfl ql ?_; refine xn rfl qm ?_; refine xn rfl qn ?_; refine xn rfl qf ?_; refine xq rfl ql ?_; refine xq rfl (by exact qlb (hl := by rfl)) ?_; refine xq rfl (by exact qlb (hl := by rfl)) ?_; refine x_e rfl ?_; refine ecp rfl rfl (fun w hC hm hL => by exact place_c h' (by omega) w) ?_; intro m' hm'; refine xk ?_; refine xn rfl (by exact Qt.cast (v' := .int .i64 ((fr + p : Nat) : Int)) (congrArg (Value.int .i64) (by omega)) (q_add64 rfl rfl ⟨by omega, by omega⟩ rfl)) ?_; refine x_e rfl ?_; refine e_callL (enc := (Value.int .u8)) (e := 5) rfl rfl (by kernel_rfl) rfl (fun w hC hm hL => by exact sector_c h' w) ?_; intro b1 cap1 zs1 m1 hz1 ho1 hm1; subst hz1; rw [secL_len] at ho1; simp only [secL_len]; refine xk ?_; refine x_e rfl ?_; refine e_callX (DskL gd gw gm D) _ rfl rfl (by kernel_rfl) rfl (by (repeat (first | exact Sp.nil | (apply Sp.cons; focus (repeat (first | exact Rm.here | apply Rm.there)))))) (fun w hC hm hA hL hap => by exact wr_ok gd gw gm D hok.hf hp0 hok.le (fr + p) (by rw [hok.len]; omega) (secH h') _ _ w (SlE.own hL (by (repeat (first | exact List.Mem.head _ | apply List.Mem.tail))) ho1) (apart_sl (by (repeat (first | exact List.Mem.head _ | apply List.Mem.tail))) hap) hA) (by intro g hg; rw [feetD] at hg; exact .inl (by simp at hg ⊢; omega)) (fun _ => rfl) ?_; intro _ m6 _ _ hm6; refine xk ?_; refine xn rfl qa ?_; refine x_nil ?_) | (refine c_region (id := 3) ?_; refine sq qm ?_; refine sq (by first | exact dneqt | exact dneqf) ?_; refine l_nil ?_) | (refine c_region (id := 5) ?_; refine sq qm ?_; refine sq qn ?_; refine sq qf ?_; refine sq ql ?_; refine se ?_; refine e_callX (DskL gd gw gm (D.lit.put (fr + p) (secH h'))) _ rfl rfl (by kernel_rfl) rfl (by (repeat (first | exact Sp.nil | (apply Sp.cons; focus (repeat (first | exact Rm.here | apply Rm.there)))))) (fun w hC hm hA hL hap => by exact sync_ok gd gw gm (D.lit.put (fr + p) (secH h')) hok1.hf hp1 w hA) (by intro g hg; rw [feetD] at hg; exact .inl (by simp at hg ⊢; omega)) (fun _ => rfl) ?_; intro _ m7 _ _ hm7; refine sq qa ?_; refine l_nil ?_) | (refine c_region (id := 6) ?_; refine sq qm ?_; refine sq (by first | exact dneqt | exact dneqf) ?_; refine l_nil ?_) | (refine c_region (id := 8) ?_; refine sq qm ?_; refine sq qm ?_; refine sq (by exact qlb (hl := by rfl)) ?_; refine sq qm ?_; refine sq qn ?_; refine sq qf ?_; refine se ?_; refine e_store_row (vs := (headE h').toArray) rfl rfl (by rfl) (by rfl) (by rw [lg_set]; (repeat (first | exact Pl.here | apply Pl.there))) (by show 3 + 18 ≤ 23; omega) (.inl (by simp)) ?_; refine sq qn ?_; refine sq qf ?_; refine se ?_; refine es1 ?_ (hg := .inl (by simp)); refine l_nil ?_) | (refine c_region (id := 9) ?_; refine sq qa ?_; refine l_nil ?_) | refine n_then ?_ | refine c_block ?_ | refine c_skip ?_ | refine n_block ?_ | refine c_exit ?_ | refine n_then_exit ?_ | refine n_block_eq ?_ | refine n_block_ne rfl ?_ | refine c_ret ?_ | refine n_then_ret ?_ | refine n_block_ret ?_ | refine c_cond_t rfl ?_ | refine c_cond_f rfl ?_ | refine r_succ ?_ )
  refine fgs (A := (LgB gl gd fr room h' (.slice b n cap) false :: DskL gd gw gm (D.lit.put (fr + p) (secH h')).lit.still)) (by (repeat (first | exact Sp.nil | (apply Sp.cons; focus (repeat (first | exact Rm.here | apply Rm.there)))))) ?_
  (first | apply r_ret () | apply r_end ()); exact rfl; exact rfl; exact (.tmp rfl .nil); exact rfl; exact (List.Sublist.refl _); exact (by intro g hg; simp [feet, Chunk.foot] at hg; exact .inl (by simp; omega)); exact trivial
theorem become_c (gl gd gw gm fr room : Nat) (h h' : Hd) (s : Value) (D : Dk) (nd : Nat) (hok : D.OK nd) (b : Option Addr) (n cap : Nat) (hn9 : n ≤ 2000000) (hser : 0 ≤ h.ser ∧ h.ser < 4611686018427387904) (h1 : h'.ser = h.ser + 1) (h2 : h'.cnt = n) (p : Nat) (hp : (p : Int) = h'.ser % 2) (hfit : fr + 2 ≤ nd) (r : Bool × Dk) (hr : r = wrAll [(fr + p, secH h')] D) (w : World) (hL0 : Has (LgB gl gd fr room h s false :: DskL gd gw gm D) w) :
    CA Try.prog 32 [.pointer (some ⟨gl, 0, none⟩), .slice b n cap, .agg (noteE h'.nt).toArray] w (Ret (fun _ : Unit => .int .i64 (erC r.1)) [gl, gd, gw, gm] (fun _ => LgB gl gd fr room (if r.1 then h' else h) (if r.1 then .slice b n cap else s) (!r.1) :: DskL gd gw gm r.2) (fun _ => True) w) := by
  subst hr
  unfold wrAll wrAll Dk.sy
  cases hp0 : D.pgone with
  | true => exact become_0 gl gd gw gm fr room h h' s D nd hok b n cap hn9 hser h1 h2 p hp hfit hp0 w hL0
  | false =>
    rw [if_neg (by simp)]
    dsimp only
    cases hp1 : (D.lit.put (fr + p) (secH h')).pgone with
    | true => exact become_1 gl gd gw gm fr room h h' s D nd hok b n cap hn9 hser h1 h2 p hp hfit hp0 hp1 w hL0
    | false => exact become_2 gl gd gw gm fr room h h' s D nd hok b n cap hn9 hser h1 h2 p hp hfit hp0 hp1 w hL0
end Go.Proofs.Ytaccldkgopeggaa
namespace Go.Proofs.Ytaccldkgopeggaa
open Go Go.RowKit
set_option linter.unusedVariables false
set_option linter.unusedSimpArgs false
theorem wrAll_OK {nd : Nat} : ∀ (l : List (Nat × (Nat → Int))) (D : Dk), (∀ e ∈ l, e.1 < nd) → D.OK nd → (wrAll l D).2.OK nd
  | [], D, _, h => by
    unfold wrAll Dk.sy
    split
    · exact h.dead
    · rename_i hp
      exact (h.lit (by simpa using hp)).still
  | e :: l, D, hl, h => by
    unfold wrAll
    split
    · exact h.dead
    · rename_i hp
      exact wrAll_OK l _ (fun e' he => hl e' (List.mem_cons_of_mem _ he)) ((h.lit (by simpa using hp)).put e.1 (hl e (List.mem_cons_self ..)) e.2)
theorem rmW_lt {fr : Nat} {xs : List Int} : ∀ (k q : Nat), ∀ e ∈ rmW fr xs k q, fr + (2 + q) ≤ e.1 ∧ e.1 < fr + (2 + q + k)
  | 0, _, e, h => by simp [rmW] at h
  | k + 1, q, e, h => by
    simp only [rmW, List.mem_cons] at h
    rcases h with rfl | h
    · dsimp only; omega
    · have := rmW_lt k (q + 1) e h; omega
abbrev LogL (gl gd gw gm fr room : Nat) (h : Hd) (b : Option Addr) (cap : Nat) (xs : List Int) (D : Dk) : List Chunk := .sl b cap 5 1 ((xs).map (Value.int .u8)) :: LgB gl gd fr room h (.slice b xs.length cap) false :: DskL gd gw gm D
theorem become_y (gl gd gw gm fr room : Nat) (h h' : Hd) (s : Value) (D : Dk) (nd : Nat) (hok : D.OK nd) (b : Option Addr) (n cap : Nat) (hn9 : n ≤ 2000000) (hser : 0 ≤ h.ser ∧ h.ser < 4611686018427387904) (h1 : h'.ser = h.ser + 1) (h2 : h'.cnt = n) (p : Nat) (hp : (p : Int) = h'.ser % 2) (hfit : fr + 2 ≤ nd) (r : Bool × Dk) (hr : r = wrAll [(fr + p, secH h')] D) (ht : r.1 = true) (w : World) (hL0 : Has (LgB gl gd fr room h s false :: DskL gd gw gm D) w) :
    CA Try.prog 32 [.pointer (some ⟨gl, 0, none⟩), .slice b n cap, .agg (noteE h'.nt).toArray] w (Ret (fun _ : Unit => .int .i64 0) [gl, gd, gw, gm] (fun _ => LgB gl gd fr room h' (.slice b n cap) false :: DskL gd gw gm r.2) (fun _ => True) w) := by
  have h9 := become_c gl gd gw gm fr room h h' s D nd hok b n cap hn9 hser h1 h2 p hp hfit r hr w hL0
  rw [ht] at h9
  exact h9
theorem become_n (gl gd gw gm fr room : Nat) (h h' : Hd) (s : Value) (D : Dk) (nd : Nat) (hok : D.OK nd) (b : Option Addr) (n cap : Nat) (hn9 : n ≤ 2000000) (hser : 0 ≤ h.ser ∧ h.ser < 4611686018427387904) (h1 : h'.ser = h.ser + 1) (h2 : h'.cnt = n) (p : Nat) (hp : (p : Int) = h'.ser % 2) (hfit : fr + 2 ≤ nd) (r : Bool × Dk) (hr : r = wrAll [(fr + p, secH h')] D) (ht : r.1 = false) (w : World) (hL0 : Has (LgB gl gd fr room h s false :: DskL gd gw gm D) w) :
    CA Try.prog 32 [.pointer (some ⟨gl, 0, none⟩), .slice b n cap, .agg (noteE h'.nt).toArray] w (Ret (fun _ : Unit => .int .i64 5) [gl, gd, gw, gm] (fun _ => LgB gl gd fr room h s true :: DskL gd gw gm r.2) (fun _ => True) w) := by
  have h9 := become_c gl gd gw gm fr room h h' s D nd hok b n cap hn9 hser h1 h2 p hp hfit r hr w hL0
  rw [ht] at h9
  exact h9
theorem erC_f : erC false = 5 := rfl
theorem erC_t : erC true = 0 := rfl
theorem has_app {A L : List Chunk} {w : World} (hL : Has L w) (hA : Has A w) (hap : ∀ g ∈ feet A, g ∉ feet L) : Has (L ++ A) w :=
  ⟨fun c hc => (List.mem_append.1 hc).elim (hL.ok c) (hA.ok c), by
    rw [feet_append]
    exact List.nodup_append.2 ⟨hL.apart, hA.apart, fun a1 h1 b1 h2 e => hap b1 h2 (e ▸ h1)⟩⟩
set_option maxRecDepth 100000 in
set_option maxHeartbeats 4000000 in
theorem append_0y {w : World} (gl gd gw gm fr room : Nat) (h h' : Hd) (b0 : Option Addr) (cap0 : Nat) (bs : List Int) (D : Dk) (nd : Nat) (hok : D.OK nd) (ho : OS (feet (LogL gl gd gw gm fr room h b0 cap0 bs D)) w.heap.size b0 cap0 bs.length) (hlr : bs.length ≤ room) (hroom : room ≤ 1100000) (hfit : fr + 2 + (room + 63) / 64 ≤ nd) (hser : 0 ≤ h.ser ∧ h.ser < 4611686018427387904) (p : Nat) (hp : (p : Int) = h'.ser % 2) (h1 : h'.ser = h.ser + 1) (h2 : h'.cnt = bs.length) (a : Option Addr) (cap : Nat) (r : Bool × Dk) (hre : r = wrAll [(fr + p, secH h')] D) (hrt : r.1 = true) (hL0 : Has (LogL gl gd gw gm fr room h b0 cap0 bs D) w) :
    CA Try.prog 10 [.pointer (some ⟨gl, 0, none⟩), .slice a 0 cap, .agg (noteE h'.nt).toArray] w (Ret (fun _ : Option Addr × Nat => .int .i64 0) (feet (LogL gl gd gw gm fr room h b0 cap0 bs D)) (fun z => LogL gl gd gw gm fr room h' z.1 z.2 bs r.2) (fun z => OS (feet (LogL gl gd gw gm fr room h b0 cap0 bs D)) w.heap.size z.1 z.2 bs.length) w) := by
  have hnd := hok.n9
  refine enter (L := (LogL gl gd gw gm fr room h b0 cap0 bs D)) (X := (feet (LogL gl gd gw gm fr room h b0 cap0 bs D))) Try.func10 rfl Try.ntmps10 rfl rfl hL0 ?_
  repeat (first | refine c_seq ?_ | (refine c_region (id := 0) ?_; refine se ?_; refine eb ?_; refine sq qa ?_; refine l_nil ?_) | (refine c_region (id := 1) ?_; refine sq qm ?_; refine se ?_; refine ecp rfl rfl (fun w hC hm hL => by exact ready_y gl gd fr room h (.slice b0 bs.length cap0) hser w (hL.sub (by (repeat (first | exact List.nil_sublist _ | exact List.Sublist.slnil | apply List.Sublist.cons_cons | exact List.Sublist.refl _ | apply List.Sublist.cons))))) ?_; intro m' hm'; refine sq qa ?_; refine l_nil ?_) | (refine c_region (id := 2) ?_; refine sq qm ?_; refine sq (by first | exact dneqt | exact dneqf) ?_; refine l_nil ?_) | (refine c_region (id := 4) ?_; refine sq qm ?_; refine sq qls ?_; refine sq qm ?_; refine se ?_; refine ecp rfl rfl (fun w hC hm hL => by exact room_c gl gd fr room h b0 bs.length cap0 false ⟨hlr, by omega⟩ w (hL.sub (by (repeat (first | exact List.nil_sublist _ | exact List.Sublist.slnil | apply List.Sublist.cons_cons | exact List.Sublist.refl _ | apply List.Sublist.cons))))) ?_; intro m' hm'; refine sq (by first | exact dgtrt | exact dgtrf) ?_; refine l_nil ?_) | (refine c_region (id := 6) ?_; refine sq qm ?_; refine sq qls ?_; refine sq (by first | exact deqlt | exact deqlf) ?_; refine l_nil ?_) | refine n_then ?_ | refine c_block ?_ | refine c_skip ?_ | refine n_block ?_ | refine c_exit ?_ | refine n_then_exit ?_ | refine n_block_eq ?_ | refine n_block_ne rfl ?_ | refine c_ret ?_ | refine n_then_ret ?_ | refine n_block_ret ?_ | refine c_cond_t rfl ?_ | refine c_cond_f rfl ?_ | refine r_succ ?_ )
  repeat (first | refine c_seq ?_ | (refine x_region (id := 7) (some 6) [(0, .n), (1, .n), (2, .n), (3, .n), (4, .q), (5, .q), (6, .b), (7, .n)] _ mixed (by kernel_rfl) (List.Sublist.refl _) ?_; refine xn rfl qm ?_; refine xn rfl qm ?_; refine xn rfl qn ?_; refine xn rfl qf ?_; refine xq rfl ql ?_; refine xq rfl (by exact qlb (hl := by rfl)) ?_; refine x_b rfl ?_; refine e_callX (LgB gl gd fr room h (.slice b0 bs.length cap0) false :: DskL gd gw gm D) _ rfl rfl (by kernel_rfl) rfl (by (repeat (first | exact Sp.nil | (apply Sp.cons; focus (repeat (first | exact Rm.here | apply Rm.there)))))) (fun w hC hm hA hL hap => by exact become_y gl gd gw gm fr room h h' (.slice b0 bs.length cap0) D nd hok b0 bs.length cap0 (by omega) hser h1 h2 p hp (by omega) r hre hrt w hA) (by intro g hg; exact .inl (by simp [feet, Chunk.foot] at hg ⊢; rcases hg with h | h | h | h <;> simp [h])) (fun _ => rfl) ?_; intro _ m5 _ _ hm5; refine x_k (List.nil_sublist _) ?_; refine xn rfl qa ?_; refine x_nil ?_) | refine n_then ?_ | refine c_block ?_ | refine c_skip ?_ | refine n_block ?_ | refine c_exit ?_ | refine n_then_exit ?_ | refine n_block_eq ?_ | refine n_block_ne rfl ?_ | refine c_ret ?_ | refine n_then_ret ?_ | refine n_block_ret ?_ | refine c_cond_t rfl ?_ | refine c_cond_f rfl ?_ | refine r_succ ?_ )
  refine fgs (A := LogL gl gd gw gm fr room h' b0 cap0 bs r.2) (by (repeat (first | exact Sp.nil | (apply Sp.cons; focus (repeat (first | exact Rm.here | apply Rm.there)))))) ?_
  (first | apply r_ret (b0, cap0) | apply r_end (b0, cap0)); exact rfl; exact rfl; exact (.tmp rfl .nil); exact rfl; exact (List.Sublist.refl _); exact (fun g hg => .inl hg); exact ho
set_option maxRecDepth 100000 in
set_option maxHeartbeats 4000000 in
theorem append_0n {w : World} (gl gd gw gm fr room : Nat) (h h' : Hd) (b0 : Option Addr) (cap0 : Nat) (bs : List Int) (D : Dk) (nd : Nat) (hok : D.OK nd) (ho : OS (feet (LogL gl gd gw gm fr room h b0 cap0 bs D)) w.heap.size b0 cap0 bs.length) (hlr : bs.length ≤ room) (hroom : room ≤ 1100000) (hfit : fr + 2 + (room + 63) / 64 ≤ nd) (hser : 0 ≤ h.ser ∧ h.ser < 4611686018427387904) (p : Nat) (hp : (p : Int) = h'.ser % 2) (h1 : h'.ser = h.ser + 1) (h2 : h'.cnt = bs.length) (a : Option Addr) (cap : Nat) (r : Bool × Dk) (hre : r = wrAll [(fr + p, secH h')] D) (hrt : r.1 = false) (hL0 : Has (LogL gl gd gw gm fr room h b0 cap0 bs D) w) :
    CA Try.prog 10 [.pointer (some ⟨gl, 0, none⟩), .slice a 0 cap, .agg (noteE h'.nt).toArray] w (Ret (fun _ : Unit => .int .i64 5) (feet (LogL gl gd gw gm fr room h b0 cap0 bs D)) (fun _ => LgB gl gd fr room h (.slice b0 bs.length cap0) true :: DskL gd gw gm r.2) (fun _ => True) w) := by
  have hnd := hok.n9
  refine enter (L := (LogL gl gd gw gm fr room h b0 cap0 bs D)) (X := (feet (LogL gl gd gw gm fr room h b0 cap0 bs D))) Try.func10 rfl Try.ntmps10 rfl rfl hL0 ?_
  repeat (first | refine c_seq ?_ | (refine c_region (id := 0) ?_; refine se ?_; refine eb ?_; refine sq qa ?_; refine l_nil ?_) | (refine c_region (id := 1) ?_; refine sq qm ?_; refine se ?_; refine ecp rfl rfl (fun w hC hm hL => by exact ready_y gl gd fr room h (.slice b0 bs.length cap0) hser w (hL.sub (by (repeat (first | exact List.nil_sublist _ | exact List.Sublist.slnil | apply List.Sublist.cons_cons | exact List.Sublist.refl _ | apply List.Sublist.cons))))) ?_; intro m' hm'; refine sq qa ?_; refine l_nil ?_) | (refine c_region (id := 2) ?_; refine sq qm ?_; refine sq (by first | exact dneqt | exact dneqf) ?_; refine l_nil ?_) | (refine c_region (id := 4) ?_; refine sq qm ?_; refine sq qls ?_; refine sq qm ?_; refine se ?_; refine ecp rfl rfl (fun w hC hm hL => by exact room_c gl gd fr room h b0 bs.length cap0 false ⟨hlr, by omega⟩ w (hL.sub (by (repeat (first | exact List.nil_sublist _ | exact List.Sublist.slnil | apply List.Sublist.cons_cons | exact List.Sublist.refl _ | apply List.Sublist.cons))))) ?_; intro m' hm'; refine sq (by first | exact dgtrt | exact dgtrf) ?_; refine l_nil ?_) | (refine c_region (id := 6) ?_; refine sq qm ?_; refine sq qls ?_; refine sq (by first | exact deqlt | exact deqlf) ?_; refine l_nil ?_) | refine n_then ?_ | refine c_block ?_ | refine c_skip ?_ | refine n_block ?_ | refine c_exit ?_ | refine n_then_exit ?_ | refine n_block_eq ?_ | refine n_block_ne rfl ?_ | refine c_ret ?_ | refine n_then_ret ?_ | refine n_block_ret ?_ | refine c_cond_t rfl ?_ | refine c_cond_f rfl ?_ | refine r_succ ?_ )
  repeat (first | refine c_seq ?_ | (refine x_region (id := 7) (some 6) [(0, .n), (1, .n), (2, .n), (3, .n), (4, .q), (5, .q), (6, .b), (7, .n)] _ mixed (by kernel_rfl) (List.Sublist.refl _) ?_; refine xn rfl qm ?_; refine xn rfl qm ?_; refine xn rfl qn ?_; refine xn rfl qf ?_; refine xq rfl ql ?_; refine xq rfl (by exact qlb (hl := by rfl)) ?_; refine x_b rfl ?_; refine e_callX (LgB gl gd fr room h (.slice b0 bs.length cap0) false :: DskL gd gw gm D) _ rfl rfl (by kernel_rfl) rfl (by (repeat (first | exact Sp.nil | (apply Sp.cons; focus (repeat (first | exact Rm.here | apply Rm.there)))))) (fun w hC hm hA hL hap => by exact become_n gl gd gw gm fr room h h' (.slice b0 bs.length cap0) D nd hok b0 bs.length cap0 (by omega) hser h1 h2 p hp (by omega) r hre hrt w hA) (by intro g hg; exact .inl (by simp [feet, Chunk.foot] at hg ⊢; rcases hg with h | h | h | h <;> simp [h])) (fun _ => rfl) ?_; intro _ m5 _ _ hm5; refine x_k (List.nil_sublist _) ?_; refine xn rfl qa ?_; refine x_nil ?_) | refine n_then ?_ | refine c_block ?_ | refine c_skip ?_ | refine n_block ?_ | refine c_exit ?_ | refine n_then_exit ?_ | refine n_block_eq ?_ | refine n_block_ne rfl ?_ | refine c_ret ?_ | refine n_then_ret ?_ | refine n_block_ret ?_ | refine c_cond_t rfl ?_ | refine c_cond_f rfl ?_ | refine r_succ ?_ )
  refine fgs (A := (LgB gl gd fr room h (.slice b0 bs.length cap0) true :: DskL gd gw gm r.2)) (by (repeat (first | exact Sp.nil | (apply Sp.cons; focus (repeat (first | exact Rm.here | apply Rm.there)))))) ?_
  (first | apply r_ret () | apply r_end ()); exact rfl; exact rfl; exact (.tmp rfl .nil); exact rfl; exact (List.Sublist.refl _); exact (by intro g hg; exact .inl (by simp [feet, Chunk.foot] at hg ⊢; rcases hg with h | h | h | h <;> simp [h])); exact trivial
set_option maxRecDepth 100000 in
set_option maxHeartbeats 4000000 in
theorem append_1 {w : World} (gl gd gw gm fr room : Nat) (h h' : Hd) (b0 : Option Addr) (cap0 : Nat) (bs : List Int) (D : Dk) (nd : Nat) (hok : D.OK nd) (ho : OS (feet (LogL gl gd gw gm fr room h b0 cap0 bs D)) w.heap.size b0 cap0 bs.length) (hlr : bs.length ≤ room) (hroom : room ≤ 1100000) (hfit : fr + 2 + (room + 63) / 64 ≤ nd) (hser : 0 ≤ h.ser ∧ h.ser < 4611686018427387904) (p : Nat) (hp : (p : Int) = h'.ser % 2) (h1 : h'.ser = h.ser + 1) (a : Option Addr) (len cap : Nat) (ys : List Int) (h2 : h'.cnt = (bs ++ ys).length) (hyl : ys.length = len) (hy0 : 0 < len) (hfr : bs.length + len ≤ room) (hys : SlE (Value.int .u8) w a ys) (hyx : ∀ g o, a = some ⟨g, o, none⟩ → g ∉ (feet (LogL gl gd gw gm fr room h b0 cap0 bs D))) (r1 : Bool × Dk) (hr1e : r1 = wrAll (rmW fr (bs ++ ys) (((bs ++ ys).length + 63) / 64 - bs.length / 64) (bs.length / 64)) D) (hr1 : r1.1 = false) (hL0 : Has (LogL gl gd gw gm fr room h b0 cap0 bs D) w) :
    CA Try.prog 10 [.pointer (some ⟨gl, 0, none⟩), .slice a len cap, .agg (noteE h'.nt).toArray] w (Ret (fun _ : Unit => .int .i64 5) (feet (LogL gl gd gw gm fr room h b0 cap0 bs D)) (fun _ => LgB gl gd fr room h (.slice b0 bs.length cap0) true :: DskL gd gw gm r1.2) (fun _ => True) w) := by
  have hnd := hok.n9
  have hbl : bs.length + len = (bs ++ ys).length := by simp [hyl]
  have hvw : ∀ (L : List Chunk), Vw (feet (LogL gl gd gw gm fr room h b0 cap0 bs D)) w L a (ys.map (Value.int .u8)) := fun L => by
    obtain ⟨g, o, rfl, hO⟩ := hys.get (i := 0) (by omega)
    exact .inr ⟨_, rfl, RdN.old hO (hyx g o rfl)⟩
  replace hvw := fun L => hvw L
  have hok1 : ∀ r1, r1 = wrAll (rmW fr (bs ++ ys) (((bs ++ ys).length + 63) / 64 - bs.length / 64) (bs.length / 64)) D → r1.2.OK nd := fun r1 e => by
    rw [e]
    exact wrAll_OK _ _ (fun e he => by have := rmW_lt _ _ e he; omega) hok
  refine enter (L := (LogL gl gd gw gm fr room h b0 cap0 bs D)) (X := (feet (LogL gl gd gw gm fr room h b0 cap0 bs D))) Try.func10 rfl Try.ntmps10 rfl rfl hL0 ?_
  repeat (first | refine c_seq ?_ | (refine c_region (id := 0) ?_; refine se ?_; refine eb ?_; refine sq qa ?_; refine l_nil ?_) | (refine c_region (id := 1) ?_; refine sq qm ?_; refine se ?_; refine ecp rfl rfl (fun w hC hm hL => by exact ready_y gl gd fr room h (.slice b0 bs.length cap0) hser w (hL.sub (by (repeat (first | exact List.nil_sublist _ | exact List.Sublist.slnil | apply List.Sublist.cons_cons | exact List.Sublist.refl _ | apply List.Sublist.cons))))) ?_; intro m' hm'; refine sq qa ?_; refine l_nil ?_) | (refine c_region (id := 2) ?_; refine sq qm ?_; refine sq (by first | exact dneqt | exact dneqf) ?_; refine l_nil ?_) | (refine c_region (id := 4) ?_; refine sq qm ?_; refine sq qls ?_; refine sq qm ?_; refine se ?_; refine ecp rfl rfl (fun w hC hm hL => by exact room_c gl gd fr room h b0 bs.length cap0 false ⟨hlr, by omega⟩ w (hL.sub (by (repeat (first | exact List.nil_sublist _ | exact List.Sublist.slnil | apply List.Sublist.cons_cons | exact List.Sublist.refl _ | apply List.Sublist.cons))))) ?_; intro m' hm'; refine sq (by first | exact dgtrt | exact dgtrf) ?_; refine l_nil ?_) | (refine c_region (id := 6) ?_; refine sq qm ?_; refine sq qls ?_; refine sq (by first | exact deqlt | exact deqlf) ?_; refine l_nil ?_) | (refine c_region (id := 8) ?_; refine sq qm ?_; refine sq qn ?_; refine sq qf ?_; refine sq ql ?_; refine sq qm ?_; refine se ?_; refine e_appE (Value.int .u8) bs ys rfl rfl rfl (by (repeat (first | exact Rm.here | apply Rm.there))) (hvw _) rfl hyl ho (allOne_u8L _) (by omega) (by omega) ?_; intro b2 cap2 m2 ho2 hm2; refine sq qa ?_; refine l_nil ?_) | refine n_then ?_ | refine c_block ?_ | refine c_skip ?_ | refine n_block ?_ | refine c_exit ?_ | refine n_then_exit ?_ | refine n_block_eq ?_ | refine n_block_ne rfl ?_ | refine c_ret ?_ | refine n_then_ret ?_ | refine n_block_ret ?_ | refine c_cond_t rfl ?_ | refine c_cond_f rfl ?_ | refine r_succ ?_ )
  rw [hbl] at ho2 ⊢
  repeat (first | refine c_seq ?_ | (refine c_region (id := 9) ?_; refine sq qm ?_; refine sq qm ?_; refine se ?_; refine e_callX (DskL gd gw gm D) _ rfl rfl (by kernel_rfl) rfl (by (repeat (first | exact Sp.nil | (apply Sp.cons; focus (repeat (first | exact Rm.here | apply Rm.there)))))) (fun w hC hm hA hL hap => by have h9 := wroom_c gl gd gw gm fr room h b0 bs.length cap0 false D nd hok b2 (bs ++ ys).length cap2 (bs ++ ys) rfl ho2.le (by omega) (by omega) (by omega) w (SlE.own hL (by (repeat (first | exact List.Mem.head _ | apply List.Mem.tail))) ho2) (apart_sl (by (repeat (first | exact List.Mem.head _ | apply List.Mem.tail))) hap) ((has_app hL hA hap).sub (by (repeat (first | exact List.nil_sublist _ | exact List.Sublist.slnil | apply List.Sublist.cons_cons | exact List.Sublist.refl _ | apply List.Sublist.cons)))); rw [← hr1e, hr1, erC_f] at h9; exact h9) (by intro g hg; exact .inl (by simp [feet, Chunk.foot] at hg ⊢; rcases hg with h | h | h <;> simp [h])) (fun _ => rfl) ?_; intro _ m5 _ _ hm5; refine sq qa ?_; refine l_nil ?_) | (refine c_region (id := 10) ?_; refine sq qm ?_; refine sq (by first | exact dneqt | exact dneqf) ?_; refine l_nil ?_) | (refine c_region (id := 11) ?_; refine sq qm ?_; refine se ?_; refine e_call_upd rfl rfl (by kernel_rfl) rfl (fun w hC hm hL => by exact end_c gl gd fr room h (.slice b0 bs.length cap0) false w (hL.sub (by (repeat (first | exact List.nil_sublist _ | exact List.Sublist.slnil | apply List.Sublist.cons_cons | exact List.Sublist.refl _ | apply List.Sublist.cons))))) (by (repeat (first | exact Pl.here | apply Pl.there))) (.inl (by simp [feet, Chunk.foot])) ?_; intro m' hm'; refine sq qa ?_; refine l_nil ?_) | refine n_then ?_ | refine c_block ?_ | refine c_skip ?_ | refine n_block ?_ | refine c_exit ?_ | refine n_then_exit ?_ | refine n_block_eq ?_ | refine n_block_ne rfl ?_ | refine c_ret ?_ | refine n_then_ret ?_ | refine n_block_ret ?_ | refine c_cond_t rfl ?_ | refine c_cond_f rfl ?_ | refine r_succ ?_ )
  refine fgs (A := (LgB gl gd fr room h (.slice b0 bs.length cap0) true :: DskL gd gw gm r1.2)) (by (repeat (first | exact Sp.nil | (apply Sp.cons; focus (repeat (first | exact Rm.here | apply Rm.there)))))) ?_
  (first | apply r_ret () | apply r_end ()); exact rfl; exact rfl; exact (.tmp rfl .nil); exact rfl; exact (List.Sublist.refl _); exact (by intro g hg; exact .inl (by simp [feet, Chunk.foot] at hg ⊢; rcases hg with h | h | h | h <;> simp [h])); exact trivial
set_option maxRecDepth 100000 in
set_option maxHeartbeats 4000000 in
theorem append_2n {w : World} (gl gd gw gm fr room : Nat) (h h' : Hd) (b0 : Option Addr) (cap0 : Nat) (bs : List Int) (D : Dk) (nd : Nat) (hok : D.OK nd) (ho : OS (feet (LogL gl gd gw gm fr room h b0 cap0 bs D)) w.heap.size b0 cap0 bs.length) (hlr : bs.length ≤ room) (hroom : room ≤ 1100000) (hfit : fr + 2 + (room + 63) / 64 ≤ nd) (hser : 0 ≤ h.ser ∧ h.ser < 4611686018427387904) (p : Nat) (hp : (p : Int) = h'.ser % 2) (h1 : h'.ser = h.ser + 1) (a : Option Addr) (len cap : Nat) (ys : List Int) (h2 : h'.cnt = (bs ++ ys).length) (hyl : ys.length = len) (hy0 : 0 < len) (hfr : bs.length + len ≤ room) (hys : SlE (Value.int .u8) w a ys) (hyx : ∀ g o, a = some ⟨g, o, none⟩ → g ∉ (feet (LogL gl gd gw gm fr room h b0 cap0 bs D))) (r1 : Bool × Dk) (hr1e : r1 = wrAll (rmW fr (bs ++ ys) (((bs ++ ys).length + 63) / 64 - bs.length / 64) (bs.length / 64)) D) (hr1 : r1.1 = true) (r2 : Bool × Dk) (hre : r2 = wrAll [(fr + p, secH h')] r1.2) (hrt : r2.1 = false) (hL0 : Has (LogL gl gd gw gm fr room h b0 cap0 bs D) w) :
    CA Try.prog 10 [.pointer (some ⟨gl, 0, none⟩), .slice a len cap, .agg (noteE h'.nt).toArray] w (Ret (fun _ : Unit => .int .i64 5) (feet (LogL gl gd gw gm fr room h b0 cap0 bs D)) (fun _ => LgB gl gd fr room h (.slice b0 bs.length cap0) true :: DskL gd gw gm r2.2) (fun _ => True) w) := by
  have hnd := hok.n9
  have hbl : bs.length + len = (bs ++ ys).length := by simp [hyl]
  have hvw : ∀ (L : List Chunk), Vw (feet (LogL gl gd gw gm fr room h b0 cap0 bs D)) w L a (ys.map (Value.int .u8)) := fun L => by
    obtain ⟨g, o, rfl, hO⟩ := hys.get (i := 0) (by omega)
    exact .inr ⟨_, rfl, RdN.old hO (hyx g o rfl)⟩
  replace hvw := fun L => hvw L
  have hok1 : ∀ r1, r1 = wrAll (rmW fr (bs ++ ys) (((bs ++ ys).length + 63) / 64 - bs.length / 64) (bs.length / 64)) D → r1.2.OK nd := fun r1 e => by
    rw [e]
    exact wrAll_OK _ _ (fun e he => by have := rmW_lt _ _ e he; omega) hok
  refine enter (L := (LogL gl gd gw gm fr room h b0 cap0 bs D)) (X := (feet (LogL gl gd gw gm fr room h b0 cap0 bs D))) Try.func10 rfl Try.ntmps10 rfl rfl hL0 ?_
  repeat (first | refine c_seq ?_ | (refine c_region (id := 0) ?_; refine se ?_; refine eb ?_; refine sq qa ?_; refine l_nil ?_) | (refine c_region (id := 1) ?_; refine sq qm ?_; refine se ?_; refine ecp rfl rfl (fun w hC hm hL => by exact ready_y gl gd fr room h (.slice b0 bs.length cap0) hser w (hL.sub (by (repeat (first | exact List.nil_sublist _ | exact List.Sublist.slnil | apply List.Sublist.cons_cons | exact List.Sublist.refl _ | apply List.Sublist.cons))))) ?_; intro m' hm'; refine sq qa ?_; refine l_nil ?_) | (refine c_region (id := 2) ?_; refine sq qm ?_; refine sq (by first | exact dneqt | exact dneqf) ?_; refine l_nil ?_) | (refine c_region (id := 4) ?_; refine sq qm ?_; refine sq qls ?_; refine sq qm ?_; refine se ?_; refine ecp rfl rfl (fun w hC hm hL => by exact room_c gl gd fr room h b0 bs.length cap0 false ⟨hlr, by omega⟩ w (hL.sub (by (repeat (first | exact List.nil_sublist _ | exact List.Sublist.slnil | apply List.Sublist.cons_cons | exact List.Sublist.refl _ | apply List.Sublist.cons))))) ?_; intro m' hm'; refine sq (by first | exact dgtrt | exact dgtrf) ?_; refine l_nil ?_) | (refine c_region (id := 6) ?_; refine sq qm ?_; refine sq qls ?_; refine sq (by first | exact deqlt | exact deqlf) ?_; refine l_nil ?_) | (refine c_region (id := 8) ?_; refine sq qm ?_; refine sq qn ?_; refine sq qf ?_; refine sq ql ?_; refine sq qm ?_; refine se ?_; refine e_appE (Value.int .u8) bs ys rfl rfl rfl (by (repeat (first | exact Rm.here | apply Rm.there))) (hvw _) rfl hyl ho (allOne_u8L _) (by omega) (by omega) ?_; intro b2 cap2 m2 ho2 hm2; refine sq qa ?_; refine l_nil ?_) | refine n_then ?_ | refine c_block ?_ | refine c_skip ?_ | refine n_block ?_ | refine c_exit ?_ | refine n_then_exit ?_ | refine n_block_eq ?_ | refine n_block_ne rfl ?_ | refine c_ret ?_ | refine n_then_ret ?_ | refine n_block_ret ?_ | refine c_cond_t rfl ?_ | refine c_cond_f rfl ?_ | refine r_succ ?_ )
  rw [hbl] at ho2 ⊢
  repeat (first | refine c_seq ?_ | (refine c_region (id := 9) ?_; refine sq qm ?_; refine sq qm ?_; refine se ?_; refine e_callX (DskL gd gw gm D) _ rfl rfl (by kernel_rfl) rfl (by (repeat (first | exact Sp.nil | (apply Sp.cons; focus (repeat (first | exact Rm.here | apply Rm.there)))))) (fun w hC hm hA hL hap => by have h9 := wroom_c gl gd gw gm fr room h b0 bs.length cap0 false D nd hok b2 (bs ++ ys).length cap2 (bs ++ ys) rfl ho2.le (by omega) (by omega) (by omega) w (SlE.own hL (by (repeat (first | exact List.Mem.head _ | apply List.Mem.tail))) ho2) (apart_sl (by (repeat (first | exact List.Mem.head _ | apply List.Mem.tail))) hap) ((has_app hL hA hap).sub (by (repeat (first | exact List.nil_sublist _ | exact List.Sublist.slnil | apply List.Sublist.cons_cons | exact List.Sublist.refl _ | apply List.Sublist.cons)))); rw [← hr1e, hr1, erC_t] at h9; exact h9) (by intro g hg; exact .inl (by simp [feet, Chunk.foot] at hg ⊢; rcases hg with h | h | h <;> simp [h])) (fun _ => rfl) ?_; intro _ m5 _ _ hm5; refine sq qa ?_; refine l_nil ?_) | (refine c_region (id := 10) ?_; refine sq qm ?_; refine sq (by first | exact dneqt | exact dneqf) ?_; refine l_nil ?_) | (refine c_region (id := 12) ?_; refine sq qm ?_; refine sq qm ?_; refine sq (by exact qlb (hl := by rfl)) ?_; refine se ?_; refine e_callX (LgB gl gd fr room h (.slice b0 bs.length cap0) false :: DskL gd gw gm r1.2) _ rfl rfl (by kernel_rfl) rfl (by (repeat (first | exact Sp.nil | (apply Sp.cons; focus (repeat (first | exact Rm.here | apply Rm.there)))))) (fun w hC hm hA hL hap => by exact become_n gl gd gw gm fr room h h' (.slice b0 bs.length cap0) r1.2 nd (hok1 r1 hr1e) b2 (bs ++ ys).length cap2 (by omega) hser h1 h2 p hp (by omega) r2 hre hrt w hA) (by intro g hg; exact .inl (by simp [feet, Chunk.foot] at hg ⊢; rcases hg with h | h | h | h <;> simp [h])) (fun _ => rfl) ?_; intro _ m7 _ _ hm7; refine sq qa ?_; refine l_nil ?_) | refine n_then ?_ | refine c_block ?_ | refine c_skip ?_ | refine n_block ?_ | refine c_exit ?_ | refine n_then_exit ?_ | refine n_block_eq ?_ | refine n_block_ne rfl ?_ | refine c_ret ?_ | refine n_then_ret ?_ | refine n_block_ret ?_ | refine c_cond_t rfl ?_ | refine c_cond_f rfl ?_ | refine r_succ ?_ )
  refine fgs (A := (LgB gl gd fr room h (.slice b0 bs.length cap0) true :: DskL gd gw gm r2.2)) (by (repeat (first | exact Sp.nil | (apply Sp.cons; focus (repeat (first | exact Rm.here | apply Rm.there)))))) ?_
  (first | apply r_ret () | apply r_end ()); exact rfl; exact rfl; exact (.tmp rfl .nil); exact rfl; exact (List.Sublist.refl _); exact (by intro g hg; exact .inl (by simp [feet, Chunk.foot] at hg ⊢; rcases hg with h | h | h | h <;> simp [h])); exact trivial
set_option maxRecDepth 100000 in
set_option maxHeartbeats 4000000 in
theorem append_2y {w : World} (gl gd gw gm fr room : Nat) (h h' : Hd) (b0 : Option Addr) (cap0 : Nat) (bs : List Int) (D : Dk) (nd : Nat) (hok : D.OK nd) (ho : OS (feet (LogL gl gd gw gm fr room h b0 cap0 bs D)) w.heap.size b0 cap0 bs.length) (hlr : bs.length ≤ room) (hroom : room ≤ 1100000) (hfit : fr + 2 + (room + 63) / 64 ≤ nd) (hser : 0 ≤ h.ser ∧ h.ser < 4611686018427387904) (p : Nat) (hp : (p : Int) = h'.ser % 2) (h1 : h'.ser = h.ser + 1) (a : Option Addr) (len cap : Nat) (ys : List Int) (h2 : h'.cnt = (bs ++ ys).length) (hyl : ys.length = len) (hy0 : 0 < len) (hfr : bs.length + len ≤ room) (hys : SlE (Value.int .u8) w a ys) (hyx : ∀ g o, a = some ⟨g, o, none⟩ → g ∉ (feet (LogL gl gd gw gm fr room h b0 cap0 bs D))) (r1 : Bool × Dk) (hr1e : r1 = wrAll (rmW fr (bs ++ ys) (((bs ++ ys).length + 63) / 64 - bs.length / 64) (bs.length / 64)) D) (hr1 : r1.1 = true) (r2 : Bool × Dk) (hre : r2 = wrAll [(fr + p, secH h')] r1.2) (hrt : r2.1 = true) (hL0 : Has (LogL gl gd gw gm fr room h b0 cap0 bs D) w) :
    CA Try.prog 10 [.pointer (some ⟨gl, 0, none⟩), .slice a len cap, .agg (noteE h'.nt).toArray] w (Ret (fun _ : Option Addr × Nat => .int .i64 0) (feet (LogL gl gd gw gm fr room h b0 cap0 bs D)) (fun z => LogL gl gd gw gm fr room h' z.1 z.2 (bs ++ ys) r2.2) (fun z => OS (feet (LogL gl gd gw gm fr room h b0 cap0 bs D)) w.heap.size z.1 z.2 (bs ++ ys).length) w) := by
  have hnd := hok.n9
  have hbl : bs.length + len = (bs ++ ys).length := by simp [hyl]
  have hvw : ∀ (L : List Chunk), Vw (feet (LogL gl gd gw gm fr room h b0 cap0 bs D)) w L a (ys.map (Value.int .u8)) := fun L => by
    obtain ⟨g, o, rfl, hO⟩ := hys.get (i := 0) (by omega)
    exact .inr ⟨_, rfl, RdN.old hO (hyx g o rfl)⟩
  replace hvw := fun L => hvw L
  have hok1 : ∀ r1, r1 = wrAll (rmW fr (bs ++ ys) (((bs ++ ys).length + 63) / 64 - bs.length / 64) (bs.length / 64)) D → r1.2.OK nd := fun r1 e => by
    rw [e]
    exact wrAll_OK _ _ (fun e he => by have := rmW_lt _ _ e he; omega) hok
  refine enter (L := (LogL gl gd gw gm fr room h b0 cap0 bs D)) (X := (feet (LogL gl gd gw gm fr room h b0 cap0 bs D))) Try.func10 rfl Try.ntmps10 rfl rfl hL0 ?_
  repeat (first | refine c_seq ?_ | (refine c_region (id := 0) ?_; refine se ?_; refine eb ?_; refine sq qa ?_; refine l_nil ?_) | (refine c_region (id := 1) ?_; refine sq qm ?_; refine se ?_; refine ecp rfl rfl (fun w hC hm hL => by exact ready_y gl gd fr room h (.slice b0 bs.length cap0) hser w (hL.sub (by (repeat (first | exact List.nil_sublist _ | exact List.Sublist.slnil | apply List.Sublist.cons_cons | exact List.Sublist.refl _ | apply List.Sublist.cons))))) ?_; intro m' hm'; refine sq qa ?_; refine l_nil ?_) | (refine c_region (id := 2) ?_; refine sq qm ?_; refine sq (by first | exact dneqt | exact dneqf) ?_; refine l_nil ?_) | (refine c_region (id := 4) ?_; refine sq qm ?_; refine sq qls ?_; refine sq qm ?_; refine se ?_; refine ecp rfl rfl (fun w hC hm hL => by exact room_c gl gd fr room h b0 bs.length cap0 false ⟨hlr, by omega⟩ w (hL.sub (by (repeat (first | exact List.nil_sublist _ | exact List.Sublist.slnil | apply List.Sublist.cons_cons | exact List.Sublist.refl _ | apply List.Sublist.cons))))) ?_; intro m' hm'; refine sq (by first | exact dgtrt | exact dgtrf) ?_; refine l_nil ?_) | (refine c_region (id := 6) ?_; refine sq qm ?_; refine sq qls ?_; refine sq (by first | exact deqlt | exact deqlf) ?_; refine l_nil ?_) | (refine c_region (id := 8) ?_; refine sq qm ?_; refine sq qn ?_; refine sq qf ?_; refine sq ql ?_; refine sq qm ?_; refine se ?_; refine e_appE (Value.int .u8) bs ys rfl rfl rfl (by (repeat (first | exact Rm.here | apply Rm.there))) (hvw _) rfl hyl ho (allOne_u8L _) (by omega) (by omega) ?_; intro b2 cap2 m2 ho2 hm2; refine sq qa ?_; refine l_nil ?_) | refine n_then ?_ | refine c_block ?_ | refine c_skip ?_ | refine n_block ?_ | refine c_exit ?_ | refine n_then_exit ?_ | refine n_block_eq ?_ | refine n_block_ne rfl ?_ | refine c_ret ?_ | refine n_then_ret ?_ | refine n_block_ret ?_ | refine c_cond_t rfl ?_ | refine c_cond_f rfl ?_ | refine r_succ ?_ )
  rw [hbl] at ho2 ⊢
  repeat (first | refine c_seq ?_ | (refine c_region (id := 9) ?_; refine sq qm ?_; refine sq qm ?_; refine se ?_; refine e_callX (DskL gd gw gm D) _ rfl rfl (by kernel_rfl) rfl (by (repeat (first | exact Sp.nil | (apply Sp.cons; focus (repeat (first | exact Rm.here | apply Rm.there)))))) (fun w hC hm hA hL hap => by have h9 := wroom_c gl gd gw gm fr room h b0 bs.length cap0 false D nd hok b2 (bs ++ ys).length cap2 (bs ++ ys) rfl ho2.le (by omega) (by omega) (by omega) w (SlE.own hL (by (repeat (first | exact List.Mem.head _ | apply List.Mem.tail))) ho2) (apart_sl (by (repeat (first | exact List.Mem.head _ | apply List.Mem.tail))) hap) ((has_app hL hA hap).sub (by (repeat (first | exact List.nil_sublist _ | exact List.Sublist.slnil | apply List.Sublist.cons_cons | exact List.Sublist.refl _ | apply List.Sublist.cons)))); rw [← hr1e, hr1, erC_t] at h9; exact h9) (by intro g hg; exact .inl (by simp [feet, Chunk.foot] at hg ⊢; rcases hg with h | h | h <;> simp [h])) (fun _ => rfl) ?_; intro _ m5 _ _ hm5; refine sq qa ?_; refine l_nil ?_) | (refine c_region (id := 10) ?_; refine sq qm ?_; refine sq (by first | exact dneqt | exact dneqf) ?_; refine l_nil ?_) | (refine c_region (id := 12) ?_; refine sq qm ?_; refine sq qm ?_; refine sq (by exact qlb (hl := by rfl)) ?_; refine se ?_; refine e_callX (LgB gl gd fr room h (.slice b0 bs.length cap0) false :: DskL gd gw gm r1.2) _ rfl rfl (by kernel_rfl) rfl (by (repeat (first | exact Sp.nil | (apply Sp.cons; focus (repeat (first | exact Rm.here | apply Rm.there)))))) (fun w hC hm hA hL hap => by exact become_y gl gd gw gm fr room h h' (.slice b0 bs.length cap0) r1.2 nd (hok1 r1 hr1e) b2 (bs ++ ys).length cap2 (by omega) hser h1 h2 p hp (by omega) r2 hre hrt w hA) (by intro g hg; exact .inl (by simp [feet, Chunk.foot] at hg ⊢; rcases hg with h | h | h | h <;> simp [h])) (fun _ => rfl) ?_; intro _ m7 _ _ hm7; refine sq qa ?_; refine l_nil ?_) | refine n_then ?_ | refine c_block ?_ | refine c_skip ?_ | refine n_block ?_ | refine c_exit ?_ | refine n_then_exit ?_ | refine n_block_eq ?_ | refine n_block_ne rfl ?_ | refine c_ret ?_ | refine n_then_ret ?_ | refine n_block_ret ?_ | refine c_cond_t rfl ?_ | refine c_cond_f rfl ?_ | refine r_succ ?_ )
  refine fgs (A := LogL gl gd gw gm fr room h' b2 cap2 (bs ++ ys) r2.2) (by (repeat (first | exact Sp.nil | (apply Sp.cons; focus (repeat (first | exact Rm.here | apply Rm.there)))))) ?_
  (first | apply r_ret (b2, cap2) | apply r_end (b2, cap2)); exact rfl; exact rfl; exact (.tmp rfl .nil); exact rfl; exact (List.Sublist.refl _); exact (new_sl ho2.newc (by intro g hg; exact .inl (by simp [feet, Chunk.foot] at hg ⊢; rcases hg with h | h | h | h <;> simp [h]))); exact ho2
end Go.Proofs.Ytaccldkgopeggaa
namespace Go.Proofs.Ytaccldkgopeggaa
open Go Go.RowKit
set_option linter.unusedVariables false
set_option linter.unusedSimpArgs false
def appR (fr p : Nat) (h' : Hd) (bs ys : List Int) (D : Dk) : Bool × Dk := if ys = [] then wrAll [(fr + p, secH h')] D else if (wrAll (rmW fr (bs ++ ys) (((bs ++ ys).length + 63) / 64 - bs.length / 64) (bs.length / 64)) D).1 then wrAll [(fr + p, secH h')] (wrAll (rmW fr (bs ++ ys) (((bs ++ ys).length + 63) / 64 - bs.length / 64) (bs.length / 64)) D).2 else wrAll (rmW fr (bs ++ ys) (((bs ++ ys).length + 63) / 64 - bs.length / 64) (bs.length / 64)) D
abbrev BK (b : Option Addr) (cap n : Nat) : Prop := n ≤ cap ∧ cap ≤ 9223372036854775807 ∧ ((b = none ∧ n = 0) ∨ ∃ g, b = some ⟨g, 0, none⟩)
theorem ca_phi {α : Type} {P : Program} {f : FuncId} {vs : List Value} {w : World} {V : α → Value} {X : List Nat} {N : α → List Chunk} {Φ Ψ : α → Prop} (h : CA P f vs w (Ret V X N Φ w)) (hm : ∀ z, Φ z → Ψ z) : CA P f vs w (Ret V X N Ψ w) :=
  ⟨h.h.mono fun e w' ⟨z, h1, h2, h3, h4, h5⟩ => ⟨z, h1, h2, h3, h4, hm z h5⟩⟩
theorem append_y {w : World} (gl gd gw gm fr room : Nat) (h h' : Hd) (b0 : Option Addr) (cap0 : Nat) (bs : List Int) (D : Dk) (nd : Nat) (hok : D.OK nd) (ho : OS (feet (LogL gl gd gw gm fr room h b0 cap0 bs D)) w.heap.size b0 cap0 bs.length) (hlr : bs.length ≤ room) (hroom : room ≤ 1100000) (hfit : fr + 2 + (room + 63) / 64 ≤ nd) (hser : 0 ≤ h.ser ∧ h.ser < 4611686018427387904) (p : Nat) (hp : (p : Int) = h'.ser % 2) (h1 : h'.ser = h.ser + 1) (a : Option Addr) (len cap : Nat) (ys : List Int) (h2 : h'.cnt = (bs ++ ys).length) (hyl : ys.length = len) (hfr : bs.length + len ≤ room) (hys : SlE (Value.int .u8) w a ys) (hyx : ∀ g o, a = some ⟨g, o, none⟩ → 0 < len → g ∉ (feet (LogL gl gd gw gm fr room h b0 cap0 bs D))) (r : Bool × Dk) (hr : r = appR fr p h' bs ys D) (hrt : r.1 = true) (hL0 : Has (LogL gl gd gw gm fr room h b0 cap0 bs D) w) :
    CA Try.prog 10 [.pointer (some ⟨gl, 0, none⟩), .slice a len cap, .agg (noteE h'.nt).toArray] w (Ret (fun _ : Option Addr × Nat => .int .i64 0) (feet (LogL gl gd gw gm fr room h b0 cap0 bs D)) (fun z => LogL gl gd gw gm fr room h' z.1 z.2 (bs ++ ys) r.2) (fun z => BK z.1 z.2 (bs ++ ys).length) w) := by
  by_cases hy : ys = []
  · subst hy
    obtain rfl : len = 0 := by rw [← hyl]; rfl
    rw [List.append_nil] at h2 ⊢
    rw [appR, if_pos rfl] at hr
    exact ca_phi (append_0y gl gd gw gm fr room h h' b0 cap0 bs D nd hok ho hlr hroom hfit hser p hp h1 h2 a cap r hr hrt hL0) fun z hz => hz.ret
  · have hpos : 0 < len := by rw [← hyl]; exact List.length_pos_iff.2 hy
    rw [appR, if_neg hy] at hr
    obtain ⟨r1, hr1⟩ : ∃ r1, r1 = wrAll (rmW fr (bs ++ ys) (((bs ++ ys).length + 63) / 64 - bs.length / 64) (bs.length / 64)) D := ⟨_, rfl⟩
    rw [← hr1] at hr
    cases hb : r1.1 with
    | false => rw [hb] at hr; rw [hr, if_neg (by simp), hb] at hrt; cases hrt
    | true =>
      rw [hb, if_pos rfl] at hr
      exact ca_phi (append_2y gl gd gw gm fr room h h' b0 cap0 bs D nd hok ho hlr hroom hfit hser p hp h1 a len cap ys h2 hyl hpos hfr hys (fun g o e => hyx g o e hpos) r1 hr1 hb r hr hrt hL0) fun z hz => hz.ret
theorem append_n {w : World} (gl gd gw gm fr room : Nat) (h h' : Hd) (b0 : Option Addr) (cap0 : Nat) (bs : List Int) (D : Dk) (nd : Nat) (hok : D.OK nd) (ho : OS (feet (LogL gl gd gw gm fr room h b0 cap0 bs D)) w.heap.size b0 cap0 bs.length) (hlr : bs.length ≤ room) (hroom : room ≤ 1100000) (hfit : fr + 2 + (room + 63) / 64 ≤ nd) (hser : 0 ≤ h.ser ∧ h.ser < 4611686018427387904) (p : Nat) (hp : (p : Int) = h'.ser % 2) (h1 : h'.ser = h.ser + 1) (a : Option Addr) (len cap : Nat) (ys : List Int) (h2 : h'.cnt = (bs ++ ys).length) (hyl : ys.length = len) (hfr : bs.length + len ≤ room) (hys : SlE (Value.int .u8) w a ys) (hyx : ∀ g o, a = some ⟨g, o, none⟩ → 0 < len → g ∉ (feet (LogL gl gd gw gm fr room h b0 cap0 bs D))) (r : Bool × Dk) (hr : r = appR fr p h' bs ys D) (hrt : r.1 = false) (hL0 : Has (LogL gl gd gw gm fr room h b0 cap0 bs D) w) :
    CA Try.prog 10 [.pointer (some ⟨gl, 0, none⟩), .slice a len cap, .agg (noteE h'.nt).toArray] w (Ret (fun _ : Unit => .int .i64 5) (feet (LogL gl gd gw gm fr room h b0 cap0 bs D)) (fun _ => LgB gl gd fr room h (.slice b0 bs.length cap0) true :: DskL gd gw gm r.2) (fun _ => True) w) := by
  by_cases hy : ys = []
  · subst hy
    obtain rfl : len = 0 := by rw [← hyl]; rfl
    rw [List.append_nil] at h2
    rw [appR, if_pos rfl] at hr
    exact append_0n gl gd gw gm fr room h h' b0 cap0 bs D nd hok ho hlr hroom hfit hser p hp h1 h2 a cap r hr hrt hL0
  · have hpos : 0 < len := by rw [← hyl]; exact List.length_pos_iff.2 hy
    rw [appR, if_neg hy] at hr
    obtain ⟨r1, hr1⟩ : ∃ r1, r1 = wrAll (rmW fr (bs ++ ys) (((bs ++ ys).length + 63) / 64 - bs.length / 64) (bs.length / 64)) D := ⟨_, rfl⟩
    rw [← hr1] at hr
    cases hb : r1.1 with
    | false =>
      rw [hb, if_neg (by simp)] at hr
      rw [hr]
      exact append_1 gl gd gw gm fr room h h' b0 cap0 bs D nd hok ho hlr hroom hfit hser p hp h1 a len cap ys h2 hyl hpos hfr hys (fun g o e => hyx g o e hpos) r1 hr1 hb hL0
    | true =>
      rw [hb, if_pos rfl] at hr
      exact append_2n gl gd gw gm fr room h h' b0 cap0 bs D nd hok ho hlr hroom hfit hser p hp h1 a len cap ys h2 hyl hpos hfr hys (fun g o e => hyx g o e hpos) r1 hr1 hb r hr hrt hL0
set_option maxRecDepth 100000 in
set_option maxHeartbeats 4000000 in
theorem append_o (gl gd fr room : Nat) (h : Hd) (s : Value) (a : Option Addr) (len cap : Nat) (f : Nat → Int) (w : World) (hL0 : Has [LgB gl gd fr room h s true] w) :
    CA Try.prog 10 [.pointer (some ⟨gl, 0, none⟩), .slice a len cap, .agg (noteE f).toArray] w (RV (.int .i64 5) w) := by
  refine enter (L := [LgB gl gd fr room h s true]) (X := []) Try.func10 rfl Try.ntmps10 rfl rfl hL0 ?_
  repeat (first | refine c_seq ?_ | (refine c_region (id := 0) ?_; refine se ?_; refine eb ?_; refine sq qa ?_; refine l_nil ?_) | (refine c_region (id := 1) ?_; refine sq qm ?_; refine se ?_; refine ecp rfl rfl (fun w hC hm hL => by exact ready_o gl gd fr room h s  w (hL.sub (by (repeat (first | exact List.nil_sublist _ | exact List.Sublist.slnil | apply List.Sublist.cons_cons | exact List.Sublist.refl _ | apply List.Sublist.cons))))) ?_; intro m' hm'; refine sq qa ?_; refine l_nil ?_) | (refine c_region (id := 2) ?_; refine sq qm ?_; refine sq (by first | exact dneqt | exact dneqf) ?_; refine l_nil ?_) | (refine c_region (id := 3) ?_; refine sq qm ?_; refine sq qa ?_; refine l_nil ?_) | refine n_then ?_ | refine c_block ?_ | refine c_skip ?_ | refine n_block ?_ | refine c_exit ?_ | refine n_then_exit ?_ | refine n_block_eq ?_ | refine n_block_ne rfl ?_ | refine c_ret ?_ | refine n_then_ret ?_ | refine n_block_ret ?_ | refine c_cond_t rfl ?_ | refine c_cond_f rfl ?_ | refine r_succ ?_ )
  (first | apply r_ret () | apply r_end ()); exact rfl; exact rfl; exact (.tmp rfl .nil); exact rfl; exact (List.nil_sublist _); exact new_nil; exact trivial
set_option maxRecDepth 100000 in
set_option maxHeartbeats 4000000 in
theorem clear_o (gl gd fr room : Nat) (h : Hd) (s : Value)  (w : World) (hL0 : Has [LgB gl gd fr room h s true] w) :
    CA Try.prog 24 [.pointer (some ⟨gl, 0, none⟩)] w (RV (.int .i64 5) w) := by
  refine enter (L := [LgB gl gd fr room h s true]) (X := []) Try.func24 rfl Try.ntmps24 rfl rfl hL0 ?_
  repeat (first | refine c_seq ?_ | (refine c_region (id := 0) ?_; refine sq qa ?_; refine l_nil ?_) | (refine c_region (id := 1) ?_; refine sq qm ?_; refine se ?_; refine ecp rfl rfl (fun w hC hm hL => by exact ready_o gl gd fr room h s  w (hL.sub (by (repeat (first | exact List.nil_sublist _ | exact List.Sublist.slnil | apply List.Sublist.cons_cons | exact List.Sublist.refl _ | apply List.Sublist.cons))))) ?_; intro m' hm'; refine sq qa ?_; refine l_nil ?_) | (refine c_region (id := 2) ?_; refine sq qm ?_; refine sq (by first | exact dneqt | exact dneqf) ?_; refine l_nil ?_) | (refine c_region (id := 3) ?_; refine sq qm ?_; refine sq qa ?_; refine l_nil ?_) | refine n_then ?_ | refine c_block ?_ | refine c_skip ?_ | refine n_block ?_ | refine c_exit ?_ | refine n_then_exit ?_ | refine n_block_eq ?_ | refine n_block_ne rfl ?_ | refine c_ret ?_ | refine n_then_ret ?_ | refine n_block_ret ?_ | refine c_cond_t rfl ?_ | refine c_cond_f rfl ?_ | refine r_succ ?_ )
  (first | apply r_ret () | apply r_end ()); exact rfl; exact rfl; exact (.tmp rfl .nil); exact rfl; exact (List.nil_sublist _); exact new_nil; exact trivial
set_option maxRecDepth 100000 in
set_option maxHeartbeats 4000000 in
theorem append_f (gl gd fr room : Nat) (h : Hd) (b : Option Addr) (blen bcap : Nat) (hlr : blen ≤ room) (hroom : room ≤ 1100000) (hser : 0 ≤ h.ser ∧ h.ser < 4611686018427387904) (a : Option Addr) (len cap : Nat) (f : Nat → Int) (hfu : room < blen + len) (w : World) (hL0 : Has [LgB gl gd fr room h (.slice b blen bcap) false] w) :
    CA Try.prog 10 [.pointer (some ⟨gl, 0, none⟩), .slice a len cap, .agg (noteE f).toArray] w (RV (.int .i64 4) w) := by
  refine enter (L := [LgB gl gd fr room h (.slice b blen bcap) false]) (X := []) Try.func10 rfl Try.ntmps10 rfl rfl hL0 ?_
  repeat (first | refine c_seq ?_ | (refine c_region (id := 0) ?_; refine se ?_; refine eb ?_; refine sq qa ?_; refine l_nil ?_) | (refine c_region (id := 1) ?_; refine sq qm ?_; refine se ?_; refine ecp rfl rfl (fun w hC hm hL => by exact ready_y gl gd fr room h (.slice b blen bcap) hser w (hL.sub (by (repeat (first | exact List.nil_sublist _ | exact List.Sublist.slnil | apply List.Sublist.cons_cons | exact List.Sublist.refl _ | apply List.Sublist.cons))))) ?_; intro m' hm'; refine sq qa ?_; refine l_nil ?_) | (refine c_region (id := 2) ?_; refine sq qm ?_; refine sq (by first | exact dneqt | exact dneqf) ?_; refine l_nil ?_) | (refine c_region (id := 4) ?_; refine sq qm ?_; refine sq qls ?_; refine sq qm ?_; refine se ?_; refine ecp rfl rfl (fun w hC hm hL => by exact room_c gl gd fr room h b blen bcap false ⟨hlr, by omega⟩ w (hL.sub (by (repeat (first | exact List.nil_sublist _ | exact List.Sublist.slnil | apply List.Sublist.cons_cons | exact List.Sublist.refl _ | apply List.Sublist.cons))))) ?_; intro m' hm'; refine sq (by first | exact dgtrt | exact dgtrf) ?_; refine l_nil ?_) | (refine c_region (id := 5) ?_; refine sq qa ?_; refine l_nil ?_) | refine n_then ?_ | refine c_block ?_ | refine c_skip ?_ | refine n_block ?_ | refine c_exit ?_ | refine n_then_exit ?_ | refine n_block_eq ?_ | refine n_block_ne rfl ?_ | refine c_ret ?_ | refine n_then_ret ?_ | refine n_block_ret ?_ | refine c_cond_t rfl ?_ | refine c_cond_f rfl ?_ | refine r_succ ?_ )
  (first | apply r_ret () | apply r_end ()); exact rfl; exact rfl; exact (.tmp rfl .nil); exact rfl; exact (List.nil_sublist _); exact new_nil; exact trivial
set_option maxRecDepth 100000 in
set_option maxHeartbeats 4000000 in
theorem clear_y (gl gd gw gm fr room : Nat) (h h' : Hd) (s : Value) (D : Dk) (nd : Nat) (hok : D.OK nd) (hser : 0 ≤ h.ser ∧ h.ser < 4611686018427387904) (h1 : h'.ser = h.ser + 1) (h2 : h'.cnt = (0 : Nat)) (h3 : h'.nt = h.nt) (p : Nat) (hp : (p : Int) = h'.ser % 2) (hfit : fr + 2 ≤ nd) (r : Bool × Dk) (hr : r = wrAll [(fr + p, secH h')] D) (hrt : r.1 = true) (w : World) (hL0 : Has (LgB gl gd fr room h s false :: DskL gd gw gm D) w) :
    CA Try.prog 24 [.pointer (some ⟨gl, 0, none⟩)] w (Ret (fun _ : Unit => .int .i64 0) (feet (LgB gl gd fr room h s false :: DskL gd gw gm D)) (fun _ => LogL gl gd gw gm fr room h' none 0 [] r.2) (fun _ => True) w) := by
  have hnd := hok.n9
  refine enter (L := (LgB gl gd fr room h s false :: DskL gd gw gm D)) (X := (feet (LgB gl gd fr room h s false :: DskL gd gw gm D))) Try.func24 rfl Try.ntmps24 rfl rfl hL0 ?_
  repeat (first | refine c_seq ?_ | (refine c_region (id := 0) ?_; refine sq qa ?_; refine l_nil ?_) | (refine c_region (id := 1) ?_; refine sq qm ?_; refine se ?_; refine ecp rfl rfl (fun w hC hm hL => by exact ready_y gl gd fr room h s hser w (hL.sub (by (repeat (first | exact List.nil_sublist _ | exact List.Sublist.slnil | apply List.Sublist.cons_cons | exact List.Sublist.refl _ | apply List.Sublist.cons))))) ?_; intro m' hm'; refine sq qa ?_; refine l_nil ?_) | (refine c_region (id := 2) ?_; refine sq qm ?_; refine sq (by first | exact dneqt | exact dneqf) ?_; refine l_nil ?_) | refine n_then ?_ | refine c_block ?_ | refine c_skip ?_ | refine n_block ?_ | refine c_exit ?_ | refine n_then_exit ?_ | refine n_block_eq ?_ | refine n_block_ne rfl ?_ | refine c_ret ?_ | refine n_then_ret ?_ | refine n_block_ret ?_ | refine c_cond_t rfl ?_ | refine c_cond_f rfl ?_ | refine r_succ ?_ )
  repeat (first | refine c_seq ?_ | (refine c_region (id := 4) ?_; refine sq qm ?_; refine sq qm ?_; refine sq qn ?_; refine sq qf ?_; refine sq qf ?_; refine sq (by exact qlr (vs := noteE h'.nt) (hr := by rw [h3]; exact RdN.blk (by (repeat (first | exact List.Mem.head _ | apply List.Mem.tail))) (by rfl)) (hl := by rfl)) ?_; refine se ?_; refine e_callX (LgB gl gd fr room h s false :: DskL gd gw gm D) _ rfl rfl (by kernel_rfl) rfl (by (repeat (first | exact Sp.nil | (apply Sp.cons; focus (repeat (first | exact Rm.here | apply Rm.there)))))) (fun w hC hm hA hL hap => by exact become_y gl gd gw gm fr room h h' s D nd hok none 0 0 (by omega) hser h1 h2 p hp (by omega) r hr hrt w hA) (fun g hg => .inl hg) (fun _ => rfl) ?_; intro _ m5 _ _ hm5; refine sq qa ?_; refine l_nil ?_) | refine n_then ?_ | refine c_block ?_ | refine c_skip ?_ | refine n_block ?_ | refine c_exit ?_ | refine n_then_exit ?_ | refine n_block_eq ?_ | refine n_block_ne rfl ?_ | refine c_ret ?_ | refine n_then_ret ?_ | refine n_block_ret ?_ | refine c_cond_t rfl ?_ | refine c_cond_f rfl ?_ | refine r_succ ?_ )
  refine add_nil 5 1 ?_
  refine fgs (A := (LogL gl gd gw gm fr room h' none 0 [] r.2)) (by (repeat (first | exact Sp.nil | (apply Sp.cons; focus (repeat (first | exact Rm.here | apply Rm.there)))))) ?_
  (first | apply r_ret () | apply r_end ()); exact rfl; exact rfl; exact (.tmp rfl .nil); exact rfl; exact (List.Sublist.refl _); exact (fun g hg => .inl hg); exact trivial
set_option maxRecDepth 100000 in
set_option maxHeartbeats 4000000 in
theorem clear_n (gl gd gw gm fr room : Nat) (h h' : Hd) (s : Value) (D : Dk) (nd : Nat) (hok : D.OK nd) (hser : 0 ≤ h.ser ∧ h.ser < 4611686018427387904) (h1 : h'.ser = h.ser + 1) (h2 : h'.cnt = (0 : Nat)) (h3 : h'.nt = h.nt) (p : Nat) (hp : (p : Int) = h'.ser % 2) (hfit : fr + 2 ≤ nd) (r : Bool × Dk) (hr : r = wrAll [(fr + p, secH h')] D) (hrt : r.1 = false) (w : World) (hL0 : Has (LgB gl gd fr room h s false :: DskL gd gw gm D) w) :
    CA Try.prog 24 [.pointer (some ⟨gl, 0, none⟩)] w (Ret (fun _ : Unit => .int .i64 5) (feet (LgB gl gd fr room h s false :: DskL gd gw gm D)) (fun _ => LgB gl gd fr room h s true :: DskL gd gw gm r.2) (fun _ => True) w) := by
  have hnd := hok.n9
  refine enter (L := (LgB gl gd fr room h s false :: DskL gd gw gm D)) (X := (feet (LgB gl gd fr room h s false :: DskL gd gw gm D))) Try.func24 rfl Try.ntmps24 rfl rfl hL0 ?_
  repeat (first | refine c_seq ?_ | (refine c_region (id := 0) ?_; refine sq qa ?_; refine l_nil ?_) | (refine c_region (id := 1) ?_; refine sq qm ?_; refine se ?_; refine ecp rfl rfl (fun w hC hm hL => by exact ready_y gl gd fr room h s hser w (hL.sub (by (repeat (first | exact List.nil_sublist _ | exact List.Sublist.slnil | apply List.Sublist.cons_cons | exact List.Sublist.refl _ | apply List.Sublist.cons))))) ?_; intro m' hm'; refine sq qa ?_; refine l_nil ?_) | (refine c_region (id := 2) ?_; refine sq qm ?_; refine sq (by first | exact dneqt | exact dneqf) ?_; refine l_nil ?_) | refine n_then ?_ | refine c_block ?_ | refine c_skip ?_ | refine n_block ?_ | refine c_exit ?_ | refine n_then_exit ?_ | refine n_block_eq ?_ | refine n_block_ne rfl ?_ | refine c_ret ?_ | refine n_then_ret ?_ | refine n_block_ret ?_ | refine c_cond_t rfl ?_ | refine c_cond_f rfl ?_ | refine r_succ ?_ )
  repeat (first | refine c_seq ?_ | (refine c_region (id := 4) ?_; refine sq qm ?_; refine sq qm ?_; refine sq qn ?_; refine sq qf ?_; refine sq qf ?_; refine sq (by exact qlr (vs := noteE h'.nt) (hr := by rw [h3]; exact RdN.blk (by (repeat (first | exact List.Mem.head _ | apply List.Mem.tail))) (by rfl)) (hl := by rfl)) ?_; refine se ?_; refine e_callX (LgB gl gd fr room h s false :: DskL gd gw gm D) _ rfl rfl (by kernel_rfl) rfl (by (repeat (first | exact Sp.nil | (apply Sp.cons; focus (repeat (first | exact Rm.here | apply Rm.there)))))) (fun w hC hm hA hL hap => by exact become_n gl gd gw gm fr room h h' s D nd hok none 0 0 (by omega) hser h1 h2 p hp (by omega) r hr hrt w hA) (fun g hg => .inl hg) (fun _ => rfl) ?_; intro _ m5 _ _ hm5; refine sq qa ?_; refine l_nil ?_) | refine n_then ?_ | refine c_block ?_ | refine c_skip ?_ | refine n_block ?_ | refine c_exit ?_ | refine n_then_exit ?_ | refine n_block_eq ?_ | refine n_block_ne rfl ?_ | refine c_ret ?_ | refine n_then_ret ?_ | refine n_block_ret ?_ | refine c_cond_t rfl ?_ | refine c_cond_f rfl ?_ | refine r_succ ?_ )
  skip
  refine fgs (A := (LgB gl gd fr room h s true :: DskL gd gw gm r.2)) (by (repeat (first | exact Sp.nil | (apply Sp.cons; focus (repeat (first | exact Rm.here | apply Rm.there)))))) ?_
  (first | apply r_ret () | apply r_end ()); exact rfl; exact rfl; exact (.tmp rfl .nil); exact rfl; exact (List.Sublist.refl _); exact (fun g hg => .inl hg); exact trivial
end Go.Proofs.Ytaccldkgopeggaa
namespace Go.Proofs.Ytaccldkgopeggaa
open Go Go.RowKit
set_option linter.unusedVariables false
set_option linter.unusedSimpArgs false
def Dk.at (D : Dk) (i : Nat) : Nat → Int := (D.secs[i]?).getD fun _ => 0
theorem Dk.at_get {D : Dk} {i : Nat} (h : i < D.secs.length) : D.secs[i]? = some (D.at i) := by
  simp [Dk.at, List.getElem?_eq_getElem h]
theorem put_secs (D : Dk) (i : Nat) (f : Nat → Int) : (D.put i f).secs = D.secs.set i f := by
  unfold Dk.put; split <;> rfl
theorem put_at (D : Dk) (i j : Nat) (f : Nat → Int) (h : i < D.secs.length) : (D.lit.put i f).at j = if j = i then f else D.at j := by
  unfold Dk.at
  rw [put_secs]
  show ((D.secs.set i f)[j]?).getD _ = _
  rw [List.getElem?_set]
  by_cases e : j = i
  · subst e; simp [h]
  · rw [if_neg (fun h => e h.symm), if_neg e]
structure Dk.Free (D : Dk) : Prop where
  fu : D.fused = false
  go : D.gone = false
theorem Dk.Free.pg {D : Dk} (h : D.Free) : D.pgone = false := by unfold Dk.pgone; rw [h.fu, h.go]; rfl
theorem Dk.Free.put {D : Dk} (h : D.Free) (i : Nat) (f : Nat → Int) : (D.lit.put i f).Free := ⟨by rw [put_fused]; exact h.fu, Dk.put_gone _ _ _⟩
theorem Dk.Free.still {D : Dk} (h : D.Free) : D.lit.still.Free := ⟨h.fu, rfl⟩
structure RG (D : Dk) : Prop where
  s : ∀ i, RB (D.at i)
  m : ∀ e ∈ D.M, RB e.2.1
theorem Dk.new_at (n i : Nat) : (Dk.new n).at i = fun _ => 0 := by
  unfold Dk.at Dk.new
  simp only [List.getElem?_replicate]
  split <;> rfl
theorem RG.new (n : Nat) : RG (Dk.new n) := ⟨fun i => by rw [Dk.new_at]; exact RB.zero, fun e he => by simp [Dk.new] at he⟩
theorem RG.put {D : Dk} (h : RG D) (i : Nat) (hi : i < D.secs.length) {f : Nat → Int} (hf : RB f) : RG (D.lit.put i f) := by
  refine ⟨fun j => ?_, fun e he => ?_⟩
  · rw [put_at _ _ _ _ hi]
    split
    · exact hf
    · exact h.s j
  · unfold Dk.put at he
    split at he
    · simp only [List.mem_append, List.mem_singleton] at he
      rcases he with he | rfl
      · exact h.m e he
      · exact h.s i
    · exact h.m e he
theorem RG.lit {D : Dk} (h : RG D) : RG D.lit := ⟨h.s, h.m⟩
theorem RG.still {D : Dk} (h : RG D) : RG D.lit.still := ⟨h.s, fun e he => by simp [Dk.still] at he⟩
theorem RG.dead {D : Dk} (h : RG D) : RG D.dead := ⟨h.s, h.m⟩
theorem put_slen (D : Dk) (i : Nat) (f : Nat → Int) : (D.lit.put i f).secs.length = D.secs.length := by rw [put_secs]; simp [Dk.lit]
structure WF (l : List (Nat × (Nat → Int))) (D : Dk) (r : Bool × Dk) : Prop where
  ok : r.1 = true
  free : r.2.Free
  m : r.2.M = []
  rg : RG r.2
  len : r.2.secs.length = D.secs.length
  cl : r.2.cl ≤ D.cl + l.length
theorem wrAll_free : ∀ (l : List (Nat × (Nat → Int))) (D : Dk), (∀ e ∈ l, e.1 < D.secs.length ∧ RB e.2) → D.Free → RG D → WF l D (wrAll l D)
  | [], D, _, h, hg => by
    unfold wrAll Dk.sy
    rw [if_neg (by simp [h.pg])]
    exact ⟨rfl, h.still, rfl, hg.still, rfl, Nat.le_refl _⟩
  | e :: l, D, hl, h, hg => by
    unfold wrAll
    rw [if_neg (by simp [h.pg])]
    obtain ⟨h1, h2⟩ := hl e (List.mem_cons_self ..)
    have h3 := wrAll_free l (D.lit.put e.1 e.2) (fun e' he => by rw [put_slen]; exact hl e' (List.mem_cons_of_mem _ he)) (h.put _ _) (hg.put _ h1 h2)
    refine ⟨h3.ok, h3.free, h3.m, h3.rg, by rw [h3.len, put_slen], ?_⟩
    have h4 := h3.cl
    have h5 := put_cl D.lit e.1 e.2
    have h6 : D.lit.cl = D.cl := rfl
    simp only [List.length_cons]
    omega
theorem wrRoom_at (fr : Nat) (xs : List Int) : ∀ (k q : Nat) (D : Dk), D.Free → fr + (2 + q + k) ≤ D.secs.length → ∀ j, (wrAll (rmW fr xs k q) D).2.at j = if fr + (2 + q) ≤ j ∧ j < fr + (2 + q + k) then secAt xs (j - fr - 2) else D.at j
  | 0, q, D, h, _, j => by
    unfold rmW wrAll Dk.sy
    rw [if_neg (by simp [h.pg]), if_neg (by omega)]
    rfl
  | k + 1, q, D, h, hl, j => by
    unfold rmW wrAll
    rw [if_neg (by simp [h.pg])]
    dsimp only
    rw [wrRoom_at fr xs k (q + 1) _ (h.put _ _) (by rw [put_slen]; omega) j, put_at _ _ _ _ (by omega)]
    by_cases e : j = fr + (2 + q)
    · subst e
      rw [if_neg (by omega), if_pos rfl, if_pos (by omega)]
      congr 1
      omega
    · rw [if_neg e]
      by_cases e2 : fr + (2 + (q + 1)) ≤ j ∧ j < fr + (2 + (q + 1) + k)
      · rw [if_pos e2, if_pos (by omega)]
      · rw [if_neg e2, if_neg (by omega)]
theorem wrHead_at (i : Nat) (f : Nat → Int) (D : Dk) (h : D.Free) (hi : i < D.secs.length) (j : Nat) : (wrAll [(i, f)] D).2.at j = if j = i then f else D.at j := by
  unfold wrAll wrAll Dk.sy
  rw [if_neg (by simp [h.pg])]
  dsimp only
  rw [if_neg (by simp [(h.put i f).pg])]
  exact put_at _ _ _ _ hi
theorem rmW_RB {fr : Nat} {xs : List Int} (hx : ∀ x ∈ xs, 0 ≤ x ∧ x ≤ 255) : ∀ (k q : Nat), ∀ e ∈ rmW fr xs k q, RB e.2
  | 0, _, e, h => by simp [rmW] at h
  | k + 1, q, e, h => by
    simp only [rmW, List.mem_cons] at h
    rcases h with rfl | h
    · exact secAt_RB hx q
    · exact rmW_RB hx k (q + 1) e h
theorem rmW_len {fr : Nat} {xs : List Int} : ∀ (k q : Nat), (rmW fr xs k q).length = k
  | 0, _ => rfl
  | k + 1, q => by rw [rmW, List.length_cons, rmW_len k]
structure LogAt (D : Dk) (fr kn : Nat) (h : Hd) (bs : List Int) : Prop where
  st : stI ((kn - 2) * 64) (fun i => D.at (fr + i)) 2 = h
  cnt : h.cnt = bs.length
  le : bs.length ≤ (kn - 2) * 64
  bytes : rmL (fun i => D.at (fr + i)) bs.length = bs
theorem stI_at {room : Nat} {Fs Gs : Nat → Nat → Int} (h0 : Fs 0 = Gs 0) (h1 : Fs 1 = Gs 1) : stI room Fs 2 = stI room Gs 2 := by
  show stepH room 1 (stepH room 0 hdZ (Fs 0)) (Fs 1) = stepH room 1 (stepH room 0 hdZ (Gs 0)) (Gs 1)
  rw [h0, h1]
theorem next_head {room : Nat} {Fs Gs : Nat → Nat → Int} {h h' : Hd} (hF : stI room Fs 2 = h) (hK : HdK h') (hs : h'.ser = h.ser + 1) (hs0 : 0 ≤ h.ser) (hc : h'.cnt ≤ room) (p : Nat) (hp : (p : Int) = h'.ser % 2) (hG : Gs p = secH h') (hO : Gs (1 - p) = Fs (1 - p)) : stI room Gs 2 = h' := by
  have hF : stepH room 1 (stepH room 0 hdZ (Fs 0)) (Fs 1) = h := hF
  show stepH room 1 (stepH room 0 hdZ (Gs 0)) (Gs 1) = h'
  have hz : hdZ.ser = 0 := rfl
  have hev : (stepH room 0 hdZ (Fs 0)).ser % 2 = 0 := by
    unfold stepH
    split
    · rename_i hu; exact hu.2.2.1
    · rfl
  obtain rfl | rfl : p = 0 ∨ p = 1 := by omega
  · have hG1 : Gs 1 = Fs 1 := hO
    have e1 : stepH room 0 hdZ (Gs 0) = h' := by
      rw [hG]
      unfold stepH
      rw [hdOf_secH hK, if_pos ⟨secH_S _, by rw [hdOf_secH hK]; exact hc, by rw [hdOf_secH hK]; omega, by rw [hdOf_secH hK, hz]; omega⟩]
    rw [e1, hG1]
    have hFo : hdOf (Fs 1) = h := by
      clear e1
      generalize stepH room 0 hdZ (Fs 0) = s1 at hF hev
      unfold stepH at hF
      split at hF
      · exact hF
      · exfalso
        rw [hF] at hev
        omega
    unfold stepH
    rw [if_neg (fun hu => by have h4 := hu.2.2.2; rw [hFo] at h4; omega)]
  · have hG0 : Gs 0 = Fs 0 := hO
    rw [hG0, hG]
    have hs1 : stepH room 0 hdZ (Fs 0) = h := by
      rw [stepH] at hF
      split at hF
      · rename_i hu
        have h3 := hu.2.2.1
        rw [hF] at h3
        omega
      · exact hF
    rw [hs1]
    unfold stepH
    rw [hdOf_secH hK, if_pos ⟨secH_S _, by rw [hdOf_secH hK]; exact hc, by rw [hdOf_secH hK]; omega, by rw [hdOf_secH hK]; omega⟩]
theorem rmL_ext {Fs : Nat → Nat → Int} {xs : List Int} (h : ∀ p (hp : p < xs.length), Fs (2 + p / 64) (p % 64) = xs[p]) : rmL Fs xs.length = xs := by
  apply List.ext_getElem
  · simp [rmL]
  · intro i h1 h2
    simp only [rmL, List.getElem_map, List.getElem_range]
    exact h i h2
theorem rmL_get {Fs : Nat → Nat → Int} {xs : List Int} (h : rmL Fs xs.length = xs) (p : Nat) (hp : p < xs.length) : Fs (2 + p / 64) (p % 64) = xs[p] := by
  have h1 : (rmL Fs xs.length)[p]? = xs[p]? := by rw [h]
  simpa [rmL, hp] using h1
theorem LogAt.append {D : Dk} {fr kn : Nat} {h h' : Hd} {bs ys : List Int} (hl : LogAt D fr kn h bs) (hfr : fr + kn ≤ D.secs.length) (hk : 3 ≤ kn) (hf : D.Free) (hg : RG D) (hK : HdK h') (hs : h'.ser = h.ser + 1) (hs0 : 0 ≤ h.ser) (hc : h'.cnt = (bs ++ ys).length) (hroom : (bs ++ ys).length ≤ (kn - 2) * 64) (hx : ∀ x ∈ bs ++ ys, 0 ≤ x ∧ x ≤ 255) (p : Nat) (hp : (p : Int) = h'.ser % 2) :
    (appR fr p h' bs ys D).1 = true ∧ LogAt (appR fr p h' bs ys D).2 fr kn h' (bs ++ ys) ∧ (appR fr p h' bs ys D).2.Free ∧ RG (appR fr p h' bs ys D).2 ∧ (appR fr p h' bs ys D).2.M = [] ∧ (appR fr p h' bs ys D).2.secs.length = D.secs.length ∧ (appR fr p h' bs ys D).2.cl ≤ D.cl + kn := by
  have hp2 : p < 2 := by omega
  have hbs := rmL_get hl.bytes
  have hsec := secH_RB hK
  have hst := hl.st
  have key : ∀ D2 : Dk, D2.Free → RG D2 → D2.secs.length = D.secs.length → (∀ j, j < fr + 2 → D2.at j = D.at j) → rmL (fun i => D2.at (fr + i)) (bs ++ ys).length = bs ++ ys → (wrAll [(fr + p, secH h')] D2).1 = true ∧ LogAt (wrAll [(fr + p, secH h')] D2).2 fr kn h' (bs ++ ys) ∧ (wrAll [(fr + p, secH h')] D2).2.Free ∧ RG (wrAll [(fr + p, secH h')] D2).2 ∧ (wrAll [(fr + p, secH h')] D2).2.M = [] ∧ (wrAll [(fr + p, secH h')] D2).2.secs.length = D.secs.length ∧ (wrAll [(fr + p, secH h')] D2).2.cl ≤ D2.cl + 1 := by
    intro D2 h1 h2 h3 h4 h5
    have hw := wrAll_free [(fr + p, secH h')] D2 (fun e he => by simp only [List.mem_singleton] at he; subst he; exact ⟨by dsimp only; omega, hsec⟩) h1 h2
    have hat := wrHead_at (fr + p) (secH h') D2 h1 (by omega)
    refine ⟨hw.ok, ⟨?_, hc, hroom, ?_⟩, hw.free, hw.rg, hw.m, by rw [hw.len, h3], hw.cl⟩
    · refine next_head hst hK hs hs0 (by rw [hc]; exact_mod_cast hroom) p hp ?_ ?_
      · try dsimp only
        rw [hat, if_pos rfl]
      · try dsimp only
        rw [hat, if_neg (by omega)]; exact h4 _ (by omega)
    · refine rmL_ext fun q hq => ?_
      try dsimp only
      rw [hat, if_neg (by omega)]
      exact rmL_get h5 q hq
  unfold appR
  by_cases hy : ys = []
  · subst hy
    rw [if_pos rfl]
    obtain ⟨k1, k2, k3, k4, k5, k6, k7⟩ := key D hf hg rfl (fun _ _ => rfl) (by rw [List.append_nil]; exact hl.bytes)
    exact ⟨k1, k2, k3, k4, k5, k6, by omega⟩
  · rw [if_neg hy]
    have hlen : (bs ++ ys).length = bs.length + ys.length := by simp
    have hw := wrAll_free (rmW fr (bs ++ ys) (((bs ++ ys).length + 63) / 64 - bs.length / 64) (bs.length / 64)) D (fun e he => ⟨by have := rmW_lt _ _ e he; omega, rmW_RB hx _ _ e he⟩) hf hg
    have hat := wrRoom_at fr (bs ++ ys) (((bs ++ ys).length + 63) / 64 - bs.length / 64) (bs.length / 64) D hf (by omega)
    have hcl := hw.cl
    rw [rmW_len] at hcl
    rw [if_pos hw.ok]
    obtain ⟨k1, k2, k3, k4, k5, k6, k7⟩ := key _ hw.free hw.rg hw.len (fun j hj => by rw [hat, if_neg (by omega)]) (rmL_ext fun q hq => by
      try dsimp only
      rw [hat]
      by_cases e : fr + (2 + bs.length / 64) ≤ fr + (2 + q / 64)
      · rw [if_pos (by omega)]
        have e1 : fr + (2 + q / 64) - fr - 2 = q / 64 := by omega
        rw [e1]
        have e2 : 64 * (q / 64) + q % 64 = q := by omega
        simp only [secAt]
        rw [if_pos (by omega), e2, List.getElem?_eq_getElem hq, Option.getD_some]
      · rw [if_neg (by omega)]
        have hq2 : q < bs.length := by omega
        rw [List.getElem_append_left hq2]
        exact hbs q hq2)
    exact ⟨k1, k2, k3, k4, k5, k6, by omega⟩
theorem hdOf_zero : hdOf (fun _ => 0) = hdZ := by
  unfold hdOf hdZ
  congr 1
  funext j
  exact ite_self _
theorem stI_zero (room : Nat) : stI room (fun _ _ => 0) 2 = hdZ := by
  have e0 : stepH room 0 hdZ (fun _ => 0) = hdZ := by
    unfold stepH
    rw [hdOf_zero, ite_self]
  show stepH room 1 (stepH room 0 hdZ (fun _ => 0)) (fun _ => 0) = hdZ
  rw [e0]
  unfold stepH
  rw [hdOf_zero, ite_self]
theorem LogAt.new (n fr kn : Nat) : LogAt (Dk.new n) fr kn hdZ [] := by
  refine ⟨?_, rfl, Nat.zero_le _, rfl⟩
  have : (fun i => (Dk.new n).at (fr + i)) = fun _ _ => 0 := by funext i; rw [Dk.new_at]
  rw [this]
  exact stI_zero _
end Go.Proofs.Ytaccldkgopeggaa
namespace Go.Proofs.Ytaccldkgopeggaa
open Go Go.RowKit
set_option linter.unusedVariables false
set_option linter.unusedSimpArgs false
def noteF (n : Int) (j : Nat) : Int := if j < 16 then n else 0
theorem noteF_K {n : Int} (hn : 0 ≤ n ∧ n ≤ 255) : RB (noteF n) := ⟨fun j => by unfold noteF; split <;> omega⟩
theorem noteF_hi (n : Int) : ∀ j, 16 ≤ j → noteF n j = 0 := fun j hj => if_neg (by omega)
set_option maxRecDepth 100000 in
set_option maxHeartbeats 4000000 in
theorem lnote_c (n : Int) (w : World) : CA Try.prog 11 [.int .u8 n] w (RV (.agg (noteE (noteF n)).toArray) w) := by
  refine enter (L := []) (X := []) Try.func11 rfl Try.ntmps11 rfl rfl (Has.nil _) ?_
  repeat (first | refine c_rounds 17 ?_ | refine c_seq ?_ | (refine c_region (id := 0) ?_; refine se ?_; refine ea ?_; refine l_nil ?_) | (refine c_region (id := 1) ?_; refine se ?_; refine ea ?_; refine l_nil ?_) | (refine c_region (id := 2) ?_; refine sq qa ?_; refine l_nil ?_) | (refine c_region (id := 3) ?_; refine sq qm ?_; refine sq (by first | exact dlsst | exact dlssf) ?_; refine l_nil ?_) | (refine c_region (id := 4) ?_; refine sq qm ?_; refine sq qadd64 ?_; refine sq qa ?_; refine l_nil ?_) | (refine c_region (id := 5) ?_; refine sq qm ?_; refine sq qm ?_; refine sq qia ?_; refine se ?_; (first | refine es1 ?_ | refine es2 ?_ | refine es3 ?_); refine l_nil ?_) | (refine c_region (id := 6) ?_; refine sq (by exact qlb (hl := by rfl)) ?_; refine se ?_; refine esa ?_ (hk := by rfl) (ho := by rfl) (hoff := by rfl); refine l_nil ?_) | refine n_then ?_ | refine c_block ?_ | refine c_skip ?_ | refine n_block ?_ | refine c_exit ?_ | refine n_then_exit ?_ | refine n_block_eq ?_ | refine n_block_ne rfl ?_ | refine c_ret ?_ | refine n_then_ret ?_ | refine n_block_ret ?_ | refine c_cond_t rfl ?_ | refine c_cond_f rfl ?_ | refine r_succ ?_ )
  (first | apply r_ret () | apply r_end ()); exact rfl; exact rfl; exact (.row rfl (by (repeat (first | exact List.Mem.head _ | apply List.Mem.tail))) (by rfl) .nil); exact rfl; exact (List.nil_sublist _); exact new_nil; exact trivial
theorem os_bk {b : Option Addr} {cap n : Nat} (h : BK b cap n) : OS (Chunk.sl b 0 0 1 []).foot 0 b cap n := ⟨h.1, h.2.1, h.2.2, fun g hg => .inl hg⟩
theorem os_log {gl gd gw gm fr room : Nat} {h : Hd} {b : Option Addr} {cap : Nat} {xs : List Int} {D : Dk} {k : Nat} (h1 : xs.length ≤ cap) (h2 : cap ≤ 9223372036854775807) (h3 : (b = none ∧ xs.length = 0) ∨ ∃ g, b = some ⟨g, 0, none⟩) : OS (feet (LogL gl gd gw gm fr room h b cap xs D)) k b cap xs.length :=
  ⟨h1, h2, h3, fun g hg => .inl (by
    simp only [feet, List.flatMap_cons]
    exact List.mem_append_left _ (by cases b <;> exact hg))⟩
set_option maxRecDepth 100000 in
set_option maxHeartbeats 4000000 in
theorem awk_c (w : World) : CA Try.prog 7 [] w (RV (.bool true) w) := by
  obtain ⟨h1, hh1⟩ : ∃ h1 : Hd, h1 = ⟨1, (([] : List Int) ++ [120]).length, fun j => if j = 0 then 1 else 0⟩ := ⟨_, rfl⟩
  have hK1 : HdK h1 := by
    rw [hh1]
    exact ⟨⟨by decide, by decide⟩, ⟨by decide, by decide⟩, ⟨fun j => by dsimp only; split <;> omega⟩, fun j hj => if_neg (by omega)⟩
  obtain ⟨r, hr⟩ : ∃ r, r = appR 0 1 h1 [] [120] (Dk.new 3) := ⟨_, rfl⟩
  have hrt : r.1 = true := by
    rw [hr]
    exact ((LogAt.new 3 0 3).append (by decide) (by omega) ⟨rfl, rfl⟩ (RG.new 3) hK1 (by rw [hh1]; rfl) (by decide) (by rw [hh1]) (by simp) (by simp) 1 (by rw [hh1]; rfl)).1
  refine enter (L := []) (X := []) Try.func7 rfl Try.ntmps7 rfl rfl (Has.nil _) ?_
  repeat (first | refine c_seq ?_ | (refine c_region (id := 0) ?_; refine sq qa ?_; refine l_nil ?_) | (refine c_region (id := 1) ?_; refine se ?_; refine ecl rfl rfl (fun w hC hm hL => by exact newd_c 3 (by omega) w) ?_; intro z1 m1 _ hn1 hm1; obtain ⟨gd1, gw1, gm1⟩ := z1; have hg1 : w.heap.size ≤ gd1 ∧ w.heap.size ≤ gw1 ∧ w.heap.size ≤ gm1 := ⟨(by have h9 := hn1 gd1 (by simp [feetD]); omega), (by have h9 := hn1 gw1 (by simp [feetD]); omega), (by have h9 := hn1 gm1 (by simp [feetD]); omega)⟩; clear hn1; dsimp only; refine sq qa ?_; refine l_nil ?_) | refine n_then ?_ | refine c_block ?_ | refine c_skip ?_ | refine n_block ?_ | refine c_exit ?_ | refine n_then_exit ?_ | refine n_block_eq ?_ | refine n_block_ne rfl ?_ | refine c_ret ?_ | refine n_then_ret ?_ | refine n_block_ret ?_ | refine c_cond_t rfl ?_ | refine c_cond_f rfl ?_ | refine r_succ ?_ )
  refine chg (L' := DskL gd1 gw1 gm1 (Dk.new 3)) (by rfl) ?_
  repeat (first | refine c_seq ?_ | (refine c_region (id := 2) ?_; refine sq qm ?_; refine se ?_; refine ecl rfl rfl (fun w hC hm hL => by exact open_c gd1 gw1 gm1 0 3 ⟨by omega, by omega⟩ (fun i => (Dk.new 3).at (0 + i)) (Dk.new 3) rfl (by decide) (by decide) (fun i hi => Dk.at_get (by show _ < 3; omega)) (fun i _ => (RG.new 3).s _) 0 (by rw [(LogAt.new 3 0 3).st]; rfl) w (hL.sub (by (repeat (first | exact List.nil_sublist _ | exact List.Sublist.slnil | apply List.Sublist.cons_cons | exact List.Sublist.refl _ | apply List.Sublist.cons))))) ?_; intro z2 m2 hz2 hn2 hm2; obtain ⟨gl2, bl2, cl2⟩ := z2; have hq2 : w.heap.size ≤ gl2 := (by have := hn2 gl2 (by simp [feet, Chunk.foot]); omega); have hb2 : ∀ g, bl2 = some ⟨g, 0, none⟩ → w.heap.size ≤ g := (fun g e => by have := hn2 g (by simp [feet, Chunk.foot, e]); omega); dsimp only at hz2 ⊢; refine sq qm ?_; refine sq qe ?_; refine sq qe ?_; refine sq qa ?_; refine sq qa ?_; refine l_nil ?_) | refine n_then ?_ | refine c_block ?_ | refine c_skip ?_ | refine n_block ?_ | refine c_exit ?_ | refine n_then_exit ?_ | refine n_block_eq ?_ | refine n_block_ne rfl ?_ | refine c_ret ?_ | refine n_then_ret ?_ | refine n_block_ret ?_ | refine c_cond_t rfl ?_ | refine c_cond_f rfl ?_ | refine r_succ ?_ )
  rw [(LogAt.new 3 0 3).st]
  refine chg (L' := LogL gl2 gd1 gw1 gm1 0 64 hdZ bl2 cl2 [] (Dk.new 3)) (by rfl) ?_
  repeat (first | refine c_seq ?_ | (refine c_region (id := 3) ?_; refine sq qm ?_; refine sq (by first | exact deqlt | exact deqlf) ?_; refine sq qm ?_; (first | refine sk ?_ | refine skv ?_ | (refine st_want rfl rfl ?_; refine sq qm ?_)); (first | refine sk ?_ | refine skv ?_ | (refine st_want rfl rfl ?_; refine sq (by exact q_neq_pnil rfl rfl (by kernel_rfl)) ?_)); refine sq (by first | exact qpt | exact qpf) ?_; refine sq qm ?_; (first | refine sk ?_ | refine skv ?_ | (refine st_want rfl rfl ?_; refine sq qm ?_)); (first | refine sk ?_ | refine skv ?_ | (refine st_want rfl rfl ?_; refine se ?_; refine ecp rfl rfl (fun w hC hm hL => by exact room_c gl2 gd1 0 64 hdZ bl2 0 cl2 false ⟨by omega, by omega⟩ w (hL.sub (by (repeat (first | exact List.nil_sublist _ | exact List.Sublist.slnil | apply List.Sublist.cons_cons | exact List.Sublist.refl _ | apply List.Sublist.cons))))) ?_; intro m' hm')); (first | refine sk ?_ | refine skv ?_ | (refine st_want rfl rfl ?_; refine sq (by first | exact deqlt | exact deqlf) ?_)); refine sq (by first | exact qpt | exact qpf) ?_; refine sq qm ?_; (first | refine sk ?_ | refine skv ?_ | (refine st_want rfl rfl ?_; refine sq qm ?_)); (first | refine sk ?_ | refine skv ?_ | (refine st_want rfl rfl ?_; refine se ?_; refine ebs ?_)); (first | refine sk ?_ | refine skv ?_ | (refine st_want rfl rfl ?_; refine se ?_; refine e_conv_const rfl rfl (by (repeat (first | exact Pl.here | apply Pl.there))) (by first | (left; simp; done) | (right; omega)) ?_)); (first | refine sk ?_ | refine skv ?_ | (refine st_want rfl rfl ?_; refine sq (by exact qba (l' := noteE h1.nt) (hf := by rw [hh1]; rfl)) ?_)); (first | refine sk ?_ | refine skv ?_ | (refine st_want rfl rfl ?_; refine se ?_; refine e_callX (LogL gl2 gd1 gw1 gm1 0 64 hdZ bl2 cl2 [] (Dk.new 3)) _ rfl rfl (by kernel_rfl) rfl (by (repeat (first | exact Sp.nil | (apply Sp.cons; focus (repeat (first | exact Rm.here | apply Rm.there)))))) (fun w hC hm hA hL hap => by exact append_y gl2 gd1 gw1 gm1 0 64 hdZ h1 bl2 cl2 [] (Dk.new 3) 3 (Dk.OK.new 3 (by decide)) (os_log (xs := []) hz2.1 hz2.2.1 hz2.2.2) (by simp) (by omega) (by omega) ⟨by decide, by decide⟩ 1 (by rw [hh1]; rfl) (by rw [hh1]; rfl) (some ⟨_, 0, none⟩) 1 1 [120] (by rw [hh1]) rfl (by simp) (SlE.blk hL (by (repeat (first | exact List.Mem.head _ | apply List.Mem.tail))) 0 1 (by rfl)) (fun g o e _ => apart_blk (by (repeat (first | exact List.Mem.head _ | apply List.Mem.tail))) hap g o e) r hr hrt hA) (by intro g hg; refine .inr ?_; simp only [feet, List.flatMap_cons, List.mem_append] at hg; rcases hg with h9 | h9; (rcases hz2.2.2 with ⟨e9, _⟩ | ⟨g9, e9⟩; (rw [e9] at h9; simp [Chunk.foot] at h9); (rw [e9] at h9; simp [Chunk.foot] at h9; rw [h9]; exact hb2 g9 e9)); (simp [Chunk.foot] at h9; omega)) (fun _ => rfl) ?_; intro z5 m5 hz5 hn5 hm5; obtain ⟨b5, cap5⟩ := z5; dsimp only at hz5 ⊢)); (first | refine sk ?_ | refine skv ?_ | (refine st_want rfl rfl ?_; refine sq (by first | exact deqlt | exact deqlf) ?_)); refine sq (by first | exact qpt | exact qpf) ?_; refine sq qm ?_; (first | refine sk ?_ | refine skv ?_ | (refine st_want rfl rfl ?_; refine sq qm ?_)); (first | refine sk ?_ | refine skv ?_ | (refine st_want rfl rfl ?_; refine se ?_; refine e_callL (enc := (Value.int .u8)) (e := 5) rfl rfl (by kernel_rfl) rfl (fun w hC hm hL => by exact bytes_c gl2 gd1 0 64 h1 b5 cap5 false ([] ++ [120]) (by simp) w (SlE.own hL (by (repeat (first | exact List.Mem.head _ | apply List.Mem.tail))) (os_bk hz5)) (hL.sub (by (repeat (first | exact List.nil_sublist _ | exact List.Sublist.slnil | apply List.Sublist.cons_cons | exact List.Sublist.refl _ | apply List.Sublist.cons))))) ?_; intro b6 cap6 zs6 m6 hz6 ho6 hm6; subst hz6)); (first | refine sk ?_ | refine skv ?_ | (refine st_want rfl rfl ?_; refine sq (by exact qcb rfl (Vw.own (ho6.obv (by simp)) (by (repeat (first | exact List.Mem.head _ | apply List.Mem.tail)))) rfl) ?_)); (first | refine sk ?_ | refine skv ?_ | (refine st_want rfl rfl ?_; refine sq (by exact Qt.cast (v' := .bool true) (congrArg Value.bool (show ((strOfNums (([] : List Int) ++ [120])).toList == (strOfNums (([] : List Int) ++ [120])).toList) = true from beq_self_eq_true _)) (q_eql_str rfl rfl)) ?_)); refine sq (by first | exact qpt | exact qpf) ?_; refine sq qa ?_; refine l_nil ?_) | refine n_then ?_ | refine c_block ?_ | refine c_skip ?_ | refine n_block ?_ | refine c_exit ?_ | refine n_then_exit ?_ | refine n_block_eq ?_ | refine n_block_ne rfl ?_ | refine c_ret ?_ | refine n_then_ret ?_ | refine n_block_ret ?_ | refine c_cond_t rfl ?_ | refine c_cond_f rfl ?_ | refine r_succ ?_ )
  (first | apply r_ret () | apply r_end ()); exact rfl; exact rfl; exact (.tmp rfl .nil); exact rfl; exact (List.nil_sublist _); exact new_nil; exact trivial
end Go.Proofs.Ytaccldkgopeggaa
namespace Go.Proofs.Ytaccldkgopeggaa
open Go Go.RowKit
set_option linter.unusedVariables false
set_option linter.unusedSimpArgs false
structure Prt where
  a : Option Addr
  len : Nat
  cap : Nat
  xs : List Int
def Prt.v (p : Prt) : Value := .slice p.a p.len p.cap
structure Prt.Ok (w : World) (p : Prt) : Prop where
  s : SlE (Value.int .u8) w p.a p.xs
  l : p.xs.length = p.len
  c : p.len ≤ p.cap
  r : ∀ x ∈ p.xs, 0 ≤ x ∧ x ≤ 255
theorem Prt.Ok.lt {w : World} {p : Prt} (h : p.Ok w) : ∀ g o, p.a = some ⟨g, o, none⟩ → 0 < p.len → g < w.heap.size := fun g o e hl => h.s.lt g o e (by rw [h.l]; exact hl)
def joined (ps : List Prt) : List Int := ps.flatMap (·.xs)
theorem joined_succ {ps : List Prt} {i : Nat} {p : Prt} (h : ps[i]? = some p) : joined (ps.take (i + 1)) = joined (ps.take i) ++ p.xs := by
  unfold joined
  rw [List.take_add_one, h]
  simp
def noteI (f : Nat → Int) : List Int := [f 0, f 1, f 2, f 3, f 4, f 5, f 6, f 7, f 8, f 9, f 10, f 11, f 12, f 13, f 14, f 15]
theorem appR_OK {fr p nd : Nat} {h' : Hd} {bs ys : List Int} {D : Dk} (hok : D.OK nd) (hp : p < 2) (h : fr + 2 + ((bs ++ ys).length + 63) / 64 ≤ nd) : (appR fr p h' bs ys D).2.OK nd := by
  have key : ∀ D2 : Dk, D2.OK nd → (wrAll [(fr + p, secH h')] D2).2.OK nd := fun D2 h2 => wrAll_OK _ _ (fun e he => by simp only [List.mem_singleton] at he; subst he; dsimp only; omega) h2
  have hw : (wrAll (rmW fr (bs ++ ys) (((bs ++ ys).length + 63) / 64 - bs.length / 64) (bs.length / 64)) D).2.OK nd := wrAll_OK _ _ (fun e he => by have h1 := rmW_lt _ _ e he; have h2 : (bs ++ ys).length = bs.length + ys.length := List.length_append; omega) hok
  unfold appR
  split
  · exact key D hok
  · split
    · exact key _ hw
    · exact hw
structure GJ (n : Int) (ps : List Prt) (i : Nat) (D : Dk) (h : Hd) : Prop where
  ok : D.OK 40
  fre : D.Free
  rg : RG D
  lat : LogAt D 2 30 h (joined (ps.take i))
  K : HdK h
  ser : h.ser = i
  nt : ∀ k : Nat, i = k + 1 → h.nt = noteF ((n + (k : Int) % 256) % 256)
  len : (joined (ps.take i)).length ≤ 60 * i
  rng : ∀ x ∈ (joined (ps.take i)), 0 ≤ x ∧ x ≤ 255
theorem GJ.zero (n : Int) (ps : List Prt) : GJ n ps 0 (Dk.new 40) hdZ :=
  ⟨Dk.OK.new 40 (by decide), ⟨rfl, rfl⟩, RG.new 40, LogAt.new 40 2 30, hdZ_K, rfl, fun k h => by omega, by simp [joined], by simp [joined]⟩
theorem GJ.next {n : Int} {ps : List Prt} {i : Nat} {D : Dk} {h : Hd} (hJ : GJ n ps i D h) (hi : i < 20) {p : Prt} (hp : ps[i]? = some p) (hl : p.xs.length ≤ 60) (hr : ∀ x ∈ p.xs, 0 ≤ x ∧ x ≤ 255) (pp : Nat) (h1 : Hd) (hh1 : h1 = ⟨(i : Int) + 1, ((joined (ps.take i)) ++ p.xs).length, noteF ((n + (i : Int) % 256) % 256)⟩) (hpp : (pp : Int) = h1.ser % 2) : (appR 2 pp h1 (joined (ps.take i)) p.xs D).1 = true ∧ GJ n ps (i + 1) (appR 2 pp h1 (joined (ps.take i)) p.xs D).2 h1 := by
  have hlen := hJ.len
  have hser := hJ.ser
  have hal : ((joined (ps.take i)) ++ p.xs).length = (joined (ps.take i)).length + p.xs.length := List.length_append
  have hK : HdK h1 := by
    rw [hh1]
    exact ⟨⟨by dsimp only; omega, by dsimp only; omega⟩, ⟨by dsimp only; omega, by dsimp only; omega⟩, noteF_K ⟨by omega, by omega⟩, noteF_hi _⟩
  have hrr : ∀ x ∈ (joined (ps.take i)) ++ p.xs, 0 ≤ x ∧ x ≤ 255 := fun x hx => (List.mem_append.1 hx).elim (hJ.rng x) (hr x)
  obtain ⟨k1, k2, k3, k4, k5, k6, k7⟩ := hJ.lat.append (h' := h1) (ys := p.xs) (by rw [hJ.ok.len]; decide) (by omega) hJ.fre hJ.rg hK (by rw [hh1]; dsimp only; omega) (by omega) (by rw [hh1]) (by omega) hrr pp hpp
  have hnx : ∀ k : Nat, i + 1 = k + 1 → h1.nt = noteF ((n + (k : Int) % 256) % 256) := fun k hk => by
    have e : i = k := by omega
    subst e
    rw [hh1]
  refine ⟨k1, appR_OK hJ.ok (by omega) (by omega), k3, k4, by rw [joined_succ hp]; exact k2, hK, by rw [hh1]; dsimp only; omega, fun k hk => hnx k hk, by rw [joined_succ hp, hal]; omega, by rw [joined_succ hp]; exact hrr⟩
end Go.Proofs.Ytaccldkgopeggaa
namespace Go.Proofs.Ytaccldkgopeggaa
open Go Go.RowKit
set_option linter.unusedVariables false
set_option linter.unusedSimpArgs false
def rOk (room p : Nat) (F : Nat → Int) : Prop := hdS F ∧ (hdOf F).ser % 2 = p ∧ (hdOf F).cnt ≤ room
instance (room p : Nat) (F : Nat → Int) : Decidable (rOk room p F) := by unfold rOk; infer_instance
end Go.Proofs.Ytaccldkgopeggaa
namespace Go.Proofs.Ytaccldkgopeggaa
open Go Go.RowKit
set_option linter.unusedVariables false
set_option linter.unusedSimpArgs false
abbrev stE (h : Hd) (s : Value) : List Value := [.int .u64 h.ser, .int .u8 (h.nt 0), .int .u8 (h.nt 1), .int .u8 (h.nt 2), .int .u8 (h.nt 3), .int .u8 (h.nt 4), .int .u8 (h.nt 5), .int .u8 (h.nt 6), .int .u8 (h.nt 7), .int .u8 (h.nt 8), .int .u8 (h.nt 9), .int .u8 (h.nt 10), .int .u8 (h.nt 11), .int .u8 (h.nt 12), .int .u8 (h.nt 13), .int .u8 (h.nt 14), .int .u8 (h.nt 15), s]
def sameB (h1 h2 : Hd) (xs1 xs2 : List Int) : Bool := (h1.ser == h2.ser) && (noteI h1.nt == noteI h2.nt) && (xs1 == xs2)
set_option maxRecDepth 100000 in
set_option maxHeartbeats 4000000 in
theorem same_c (h1 h2 : Hd) (b1 b2 : Option Addr) (l1 l2 c1 c2 : Nat) (xs1 xs2 : List Int) (hl1 : xs1.length = l1) (hl2 : xs2.length = l2) (hr1 : ∀ x ∈ xs1, 0 ≤ x ∧ x ≤ 255) (hr2 : ∀ x ∈ xs2, 0 ≤ x ∧ x ≤ 255) (w : World) (hs1 : SlE (Value.int .u8) w b1 xs1) (hs2 : SlE (Value.int .u8) w b2 xs2) :
    CA Try.prog 19 [.agg (stE h1 (.slice b1 l1 c1)).toArray, .agg (stE h2 (.slice b2 l2 c2)).toArray] w (RV (.bool (sameB h1 h2 xs1 xs2)) w) := by
  by_cases hse : h1.ser = h2.ser
  · have hsb : (h1.ser == h2.ser) = true := by rw [hse]; exact beq_self_eq_true _
    cases hnb : (noteI h1.nt == noteI h2.nt) with
    | true =>
      have e9 : sameB h1 h2 xs1 xs2 = (xs1 == xs2) := by unfold sameB; rw [hsb, hnb]; simp
      rw [e9]
      refine enter (L := []) (X := []) Try.func19 rfl Try.ntmps19 rfl rfl (Has.nil _) ?_
      repeat (first | refine c_seq ?_ | (refine c_region (id := 0) ?_; refine se ?_; refine eb ?_; refine se ?_; refine eb ?_; refine sq qa ?_; refine l_nil ?_) | (refine c_region (id := 1) ?_; refine sq qf ?_; refine sq ql ?_; refine sq qf ?_; refine sq ql ?_; refine sq (by first | exact deqlt | exact deqlf) ?_; refine sq qm ?_; (first | refine sk ?_ | refine skv ?_ | (refine st_want rfl rfl ?_; refine sq qf ?_)); (first | refine sk ?_ | refine skv ?_ | (refine st_want rfl rfl ?_; refine sq (by exact qlr (vs := noteE h1.nt) (hr := RdN.blk (by (repeat (first | exact List.Mem.head _ | apply List.Mem.tail))) (by rfl)) (hl := by rfl)) ?_)); (first | refine sk ?_ | refine skv ?_ | (refine st_want rfl rfl ?_; refine sq qf ?_)); (first | refine sk ?_ | refine skv ?_ | (refine st_want rfl rfl ?_; refine sq (by exact qlr (vs := noteE h2.nt) (hr := RdN.blk (by (repeat (first | exact List.Mem.head _ | apply List.Mem.tail))) (by rfl)) (hl := by rfl)) ?_)); (first | refine sk ?_ | refine skv ?_ | (refine st_want rfl rfl ?_; refine sq (by exact Qt.cast (v' := .bool true) (congrArg Value.bool hnb) (q_eql_ints (xs := noteI h1.nt) (ys := noteI h2.nt) rfl rfl rfl rfl Try.eqGuardType32 (by rfl) (by rfl))) ?_)); refine sq (by first | exact qpt | exact qpf) ?_; refine sq qm ?_; (first | refine sk ?_ | refine skv ?_ | (refine st_want rfl rfl ?_; refine sq qf ?_)); (first | refine sk ?_ | refine skv ?_ | (refine st_want rfl rfl ?_; refine sq ql ?_)); (first | refine sk ?_ | refine skv ?_ | (refine st_want rfl rfl ?_; refine sq (by exact qcb rfl hs1.vw hl1) ?_)); (first | refine sk ?_ | refine skv ?_ | (refine st_want rfl rfl ?_; refine sq qf ?_)); (first | refine sk ?_ | refine skv ?_ | (refine st_want rfl rfl ?_; refine sq ql ?_)); (first | refine sk ?_ | refine skv ?_ | (refine st_want rfl rfl ?_; refine sq (by exact qcb rfl hs2.vw hl2) ?_)); (first | refine sk ?_ | refine skv ?_ | (refine st_want rfl rfl ?_; refine sq (by exact Qt.cast (congrArg Value.bool (strOfNums_beq hr1 hr2)) (q_eql_str rfl rfl)) ?_)); refine sq (by first | exact qpt | exact qpf) ?_; refine sq qa ?_; refine l_nil ?_) | refine n_then ?_ | refine c_block ?_ | refine c_skip ?_ | refine n_block ?_ | refine c_exit ?_ | refine n_then_exit ?_ | refine n_block_eq ?_ | refine n_block_ne rfl ?_ | refine c_ret ?_ | refine n_then_ret ?_ | refine n_block_ret ?_ | refine c_cond_t rfl ?_ | refine c_cond_f rfl ?_ | refine r_succ ?_ )
      (first | apply r_ret () | apply r_end ()); exact rfl; exact rfl; exact (.tmp rfl .nil); exact rfl; exact (List.nil_sublist _); exact new_nil; exact trivial
    | false =>
      have e9 : sameB h1 h2 xs1 xs2 = false := by unfold sameB; rw [hsb, hnb]; simp
      rw [e9]
      refine enter (L := []) (X := []) Try.func19 rfl Try.ntmps19 rfl rfl (Has.nil _) ?_
      repeat (first | refine c_seq ?_ | (refine c_region (id := 0) ?_; refine se ?_; refine eb ?_; refine se ?_; refine eb ?_; refine sq qa ?_; refine l_nil ?_) | (refine c_region (id := 1) ?_; refine sq qf ?_; refine sq ql ?_; refine sq qf ?_; refine sq ql ?_; refine sq (by first | exact deqlt | exact deqlf) ?_; refine sq qm ?_; (first | refine sk ?_ | refine skv ?_ | (refine st_want rfl rfl ?_; refine sq qf ?_)); (first | refine sk ?_ | refine skv ?_ | (refine st_want rfl rfl ?_; refine sq (by exact qlr (vs := noteE h1.nt) (hr := RdN.blk (by (repeat (first | exact List.Mem.head _ | apply List.Mem.tail))) (by rfl)) (hl := by rfl)) ?_)); (first | refine sk ?_ | refine skv ?_ | (refine st_want rfl rfl ?_; refine sq qf ?_)); (first | refine sk ?_ | refine skv ?_ | (refine st_want rfl rfl ?_; refine sq (by exact qlr (vs := noteE h2.nt) (hr := RdN.blk (by (repeat (first | exact List.Mem.head _ | apply List.Mem.tail))) (by rfl)) (hl := by rfl)) ?_)); (first | refine sk ?_ | refine skv ?_ | (refine st_want rfl rfl ?_; refine sq (by exact Qt.cast (v' := .bool false) (congrArg Value.bool hnb) (q_eql_ints (xs := noteI h1.nt) (ys := noteI h2.nt) rfl rfl rfl rfl Try.eqGuardType32 (by rfl) (by rfl))) ?_)); refine sq (by first | exact qpt | exact qpf) ?_; refine sq qm ?_; (first | refine sk ?_ | refine skv ?_ | (refine st_want rfl rfl ?_; refine sq qf ?_)); (first | refine sk ?_ | refine skv ?_ | (refine st_want rfl rfl ?_; refine sq ql ?_)); (first | refine sk ?_ | refine skv ?_ | (refine st_want rfl rfl ?_; refine sq (by exact qcb rfl hs1.vw hl1) ?_)); (first | refine sk ?_ | refine skv ?_ | (refine st_want rfl rfl ?_; refine sq qf ?_)); (first | refine sk ?_ | refine skv ?_ | (refine st_want rfl rfl ?_; refine sq ql ?_)); (first | refine sk ?_ | refine skv ?_ | (refine st_want rfl rfl ?_; refine sq (by exact qcb rfl hs2.vw hl2) ?_)); (first | refine sk ?_ | refine skv ?_ | (refine st_want rfl rfl ?_; refine sq (by exact Qt.cast (congrArg Value.bool (strOfNums_beq hr1 hr2)) (q_eql_str rfl rfl)) ?_)); refine sq (by first | exact qpt | exact qpf) ?_; refine sq qa ?_; refine l_nil ?_) | refine n_then ?_ | refine c_block ?_ | refine c_skip ?_ | refine n_block ?_ | refine c_exit ?_ | refine n_then_exit ?_ | refine n_block_eq ?_ | refine n_block_ne rfl ?_ | refine c_ret ?_ | refine n_then_ret ?_ | refine n_block_ret ?_ | refine c_cond_t rfl ?_ | refine c_cond_f rfl ?_ | refine r_succ ?_ )
      (first | apply r_ret () | apply r_end ()); exact rfl; exact rfl; exact (.tmp rfl .nil); exact rfl; exact (List.nil_sublist _); exact new_nil; exact trivial
  · have hsb : (h1.ser == h2.ser) = false := by simpa using hse
    have e9 : sameB h1 h2 xs1 xs2 = false := by unfold sameB; rw [hsb]; simp
    rw [e9]
    refine enter (L := []) (X := []) Try.func19 rfl Try.ntmps19 rfl rfl (Has.nil _) ?_
    repeat (first | refine c_seq ?_ | (refine c_region (id := 0) ?_; refine se ?_; refine eb ?_; refine se ?_; refine eb ?_; refine sq qa ?_; refine l_nil ?_) | (refine c_region (id := 1) ?_; refine sq qf ?_; refine sq ql ?_; refine sq qf ?_; refine sq ql ?_; refine sq (by first | exact deqlt | exact deqlf) ?_; refine sq qm ?_; (first | refine sk ?_ | refine skv ?_ | (refine st_want rfl rfl ?_; refine sq qf ?_)); (first | refine sk ?_ | refine skv ?_ | (refine st_want rfl rfl ?_; refine sq (by exact qlr (vs := noteE h1.nt) (hr := RdN.blk (by (repeat (first | exact List.Mem.head _ | apply List.Mem.tail))) (by rfl)) (hl := by rfl)) ?_)); (first | refine sk ?_ | refine skv ?_ | (refine st_want rfl rfl ?_; refine sq qf ?_)); (first | refine sk ?_ | refine skv ?_ | (refine st_want rfl rfl ?_; refine sq (by exact qlr (vs := noteE h2.nt) (hr := RdN.blk (by (repeat (first | exact List.Mem.head _ | apply List.Mem.tail))) (by rfl)) (hl := by rfl)) ?_)); (first | refine sk ?_ | refine skv ?_ | (refine st_want rfl rfl ?_; refine sq (by exact Qt.cast (v' := .bool false) (congrArg Value.bool hnb) (q_eql_ints (xs := noteI h1.nt) (ys := noteI h2.nt) rfl rfl rfl rfl Try.eqGuardType32 (by rfl) (by rfl))) ?_)); refine sq (by first | exact qpt | exact qpf) ?_; refine sq qm ?_; (first | refine sk ?_ | refine skv ?_ | (refine st_want rfl rfl ?_; refine sq qf ?_)); (first | refine sk ?_ | refine skv ?_ | (refine st_want rfl rfl ?_; refine sq ql ?_)); (first | refine sk ?_ | refine skv ?_ | (refine st_want rfl rfl ?_; refine sq (by exact qcb rfl hs1.vw hl1) ?_)); (first | refine sk ?_ | refine skv ?_ | (refine st_want rfl rfl ?_; refine sq qf ?_)); (first | refine sk ?_ | refine skv ?_ | (refine st_want rfl rfl ?_; refine sq ql ?_)); (first | refine sk ?_ | refine skv ?_ | (refine st_want rfl rfl ?_; refine sq (by exact qcb rfl hs2.vw hl2) ?_)); (first | refine sk ?_ | refine skv ?_ | (refine st_want rfl rfl ?_; refine sq (by exact Qt.cast (congrArg Value.bool (strOfNums_beq hr1 hr2)) (q_eql_str rfl rfl)) ?_)); refine sq (by first | exact qpt | exact qpf) ?_; refine sq qa ?_; refine l_nil ?_) | refine n_then ?_ | refine c_block ?_ | refine c_skip ?_ | refine n_block ?_ | refine c_exit ?_ | refine n_then_exit ?_ | refine n_block_eq ?_ | refine n_block_ne rfl ?_ | refine c_ret ?_ | refine n_then_ret ?_ | refine n_block_ret ?_ | refine c_cond_t rfl ?_ | refine c_cond_f rfl ?_ | refine r_succ ?_ )
    (first | apply r_ret () | apply r_end ()); exact rfl; exact rfl; exact (.tmp rfl .nil); exact rfl; exact (List.nil_sublist _); exact new_nil; exact trivial
theorem sameB_refl (h : Hd) (xs : List Int) : sameB h h xs xs = true := by unfold sameB; rw [beq_self_eq_true, beq_self_eq_true, beq_self_eq_true]; rfl
set_option maxRecDepth 100000 in
set_option maxHeartbeats 4000000 in
theorem state_c (gl gd fr room : Nat) (h : Hd) (b : Option Addr) (cap : Nat) (ov : Bool) (xs : List Int) (hbig : xs.length ≤ 100000000) (w : World) (hs : SlE (Value.int .u8) w b xs) (hL0 : Has [LgB gl gd fr room h (.slice b xs.length cap) ov] w) :
    CA Try.prog 20 [.pointer (some ⟨gl, 0, none⟩)] w (Ret (fun z : Option Addr × Nat => .agg (stE h (.slice z.1 xs.length z.2)).toArray) [] (fun z => [.sl z.1 z.2 5 1 (xs.map (Value.int .u8))]) (fun z => BK z.1 z.2 xs.length) w) := by
  refine enter (L := [LgB gl gd fr room h (.slice b xs.length cap) ov]) (X := []) Try.func20 rfl Try.ntmps20 rfl rfl hL0 ?_
  repeat (first | refine c_seq ?_ | (refine c_region (id := 0) ?_; refine se ?_; refine ea ?_; refine l_nil ?_) | (refine c_region (id := 1) ?_; refine sq qm ?_; refine se ?_; refine ecp rfl rfl (fun w hC hm hL => by exact serial_c gl gd fr room h _ ov w (hL.sub (by (repeat (first | exact List.nil_sublist _ | exact List.Sublist.slnil | apply List.Sublist.cons_cons | exact List.Sublist.refl _ | apply List.Sublist.cons))))) ?_; intro m' hm'; refine sq qm ?_; refine se ?_; refine ecp rfl rfl (fun w hC hm hL => by exact note_c gl gd fr room h _ ov w (hL.sub (by (repeat (first | exact List.nil_sublist _ | exact List.Sublist.slnil | apply List.Sublist.cons_cons | exact List.Sublist.refl _ | apply List.Sublist.cons))))) ?_; intro m' hm'; refine sq qm ?_; refine se ?_; refine e_callL (enc := (Value.int .u8)) (e := 5) rfl rfl (by kernel_rfl) rfl (fun w hC hm hL => by exact bytes_c gl gd fr room h b cap ov xs hbig w (hs.ch0 hC) (hL.sub (by (repeat (first | exact List.nil_sublist _ | exact List.Sublist.slnil | apply List.Sublist.cons_cons | exact List.Sublist.refl _ | apply List.Sublist.cons))))) ?_; intro b6 cap6 zs6 m6 hz6 ho6 hm6; subst hz6; refine sq qbs ?_; refine se ?_; refine esa ?_ (hk := by rfl) (ho := by rfl) (hoff := by rfl); refine l_nil ?_) | refine n_then ?_ | refine c_block ?_ | refine c_skip ?_ | refine n_block ?_ | refine c_exit ?_ | refine n_then_exit ?_ | refine n_block_eq ?_ | refine n_block_ne rfl ?_ | refine c_ret ?_ | refine n_then_ret ?_ | refine n_block_ret ?_ | refine c_cond_t rfl ?_ | refine c_cond_f rfl ?_ | refine r_succ ?_ )
  (first | apply r_ret (b6, cap6) | apply r_end (b6, cap6)); exact rfl; exact rfl; exact (.row rfl (by (repeat (first | exact List.Mem.head _ | apply List.Mem.tail))) (by rfl) .nil); exact rfl; exact (by exact (by (repeat (first | exact List.nil_sublist _ | exact List.Sublist.slnil | apply List.Sublist.cons_cons | exact List.Sublist.refl _ | apply List.Sublist.cons)))); exact (new_sl ho6.newc new_nil); exact ho6.ret
structure SecP (Fs : Nat → Nat → Int) (ps : List Prt) : Prop where
  h : ∀ i p, ps[i]? = some p → p.xs = secL (Fs i) 64 ∧ p.len = 64 ∧ 64 ≤ p.cap ∧ p.cap ≤ 9223372036854775807 ∧ ∃ g o, p.a = some ⟨g, o, none⟩
theorem SecP.take {Fs : Nat → Nat → Int} {ps : List Prt} (h : SecP Fs ps) (n : Nat) : SecP Fs (ps.take n) := ⟨fun i p hp => by
  rw [List.getElem?_take] at hp
  split at hp
  · exact h.h i p hp
  · cases hp⟩
end Go.Proofs.Ytaccldkgopeggaa
namespace Go.Proofs.Ytaccldkgopeggaa
open Go Go.RowKit
set_option linter.unusedVariables false
set_option linter.unusedSimpArgs false
structure OpI where
  kd : Int
  x : Int
  i : Int
  a : Option Addr
  len : Nat
  cap : Nat
  xs : List Int
def OpI.enc (p : OpI) : List Value := [.int .u8 p.kd, .int .u8 p.x, .int .i64 p.i, .slice p.a p.len p.cap]
theorem OpI.enc_len (p : OpI) : p.enc.length = 4 := rfl
structure OpI.Ok (w : World) (p : OpI) : Prop where
  s : SlE (Value.int .u8) w p.a p.xs
  l : p.xs.length = p.len
  c : p.len ≤ p.cap
  m : p.len ≤ 9223372036854775807
  k : 0 ≤ p.kd ∧ p.kd ≤ 255
  xb : 0 ≤ p.x ∧ p.x ≤ 255
  ib : -9223372036854775808 ≤ p.i ∧ p.i ≤ 9223372036854775807
  r : ∀ x ∈ p.xs, 0 ≤ x ∧ x ≤ 255
theorem OpI.Ok.ch0 {w w' : World} {p : OpI} (h : p.Ok w) (hC : Ch [] w w') : p.Ok w' := ⟨h.s.ch0 hC, h.l, h.c, h.m, h.k, h.xb, h.ib, h.r⟩
set_option maxRecDepth 100000 in
set_option maxHeartbeats 4000000 in
theorem op_reads {w : World} {c : List Value} (h : Reads Try.prog w 52 c) : ∃ p : OpI, c = p.enc ∧ p.Ok w := by
  obtain ⟨hl, hf⟩ := h.struct Try.underlying52
  have hc : Try.prog.cellsOf 52 = 4 := by kernel_rfl
  have h8 : Try.prog.cellsOf 5 = 1 := by kernel_rfl
  have hi : Try.prog.cellsOf 3 = 1 := by kernel_rfl
  have hs : Try.prog.cellsOf 26 = 1 := by kernel_rfl
  rw [hc] at hl
  match c, hl with
  | [c0, c1, c2, c3], _ =>
    simp only [List.mem_cons, List.not_mem_nil, or_false, forall_eq_or_imp, forall_eq, h8, hi, hs] at hf
    obtain ⟨k0, k1, k2, k3⟩ := hf
    obtain ⟨x, hx, wx⟩ := k0.int Try.underlying5
    obtain ⟨z, hz, wz⟩ := k1.int Try.underlying5
    obtain ⟨y, hy, wy⟩ := k2.int Try.underlying3
    obtain ⟨a, len, cap, xs, hb, e1, e2, e3, e4, e5⟩ := k3.bytes Try.underlying26 Try.underlying5 h8
    simp at hx hy hz hb
    subst hx hy hz hb
    simp only [maxLen] at e3
    have wy2 : -9223372036854775808 ≤ y ∧ y ≤ 9223372036854775807 := bounds_i64 wy
    exact ⟨⟨x, z, y, a, len, cap, xs⟩, rfl, ⟨e4, e1, e2, by dsimp only; omega, bounds_u8 wx, bounds_u8 wz, wy2, e5⟩⟩
set_option maxRecDepth 100000 in
set_option maxHeartbeats 4000000 in
theorem cops_of {w : World} {v : Value} {r : Reach} {base : Nat} (hok : Value.okWide Try.prog w r base 49 v) (h : Reads Try.prog w 49 v.cells.toList) :
    ∃ ap cp0 ps, v = .slice ap ps.length cp0 ∧ ps.length ≤ 9223372036854775807 ∧ (∀ p ∈ ps, p.Ok w) ∧ SlF OpI.enc w ap ps := by
  obtain ⟨a, len, cap, rfl⟩ := WideShapes.okWide_slice Try.underlying49 hok
  have h' : Reads Try.prog w 49 [.slice a len cap] := h
  obtain ⟨ps, h1, h2, h3, h4, h5⟩ := h'.rows Try.underlying49 (sz := 4) (by kernel_rfl) (by omega) OpI.enc (fun p => p.Ok w) (fun c hc => op_reads hc)
  subst h1
  exact ⟨a, cap, ps, rfl, by simp only [maxLen] at h3; omega, h5, h4⟩
def smo : List OpI → Nat
  | [] => 0
  | p :: ps => min p.len 4000 + smo ps
theorem smo_snoc (ps : List OpI) (p : OpI) : smo (ps ++ [p]) = smo ps + min p.len 4000 := by
  induction ps with
  | nil => simp [smo]
  | cons q ps ih => simp only [List.cons_append, smo, ih]; omega
theorem smo_take {ps : List OpI} {i : Nat} {p : OpI} (h : ps[i]? = some p) : smo (ps.take (i + 1)) = smo (ps.take i) + min p.len 4000 := by
  rw [List.take_add_one, h]; exact smo_snoc _ _
theorem smo_le (ps : List OpI) : smo ps ≤ 4000 * ps.length := by
  induction ps with
  | nil => simp [smo]
  | cons p ps ih => simp only [smo, List.length_cons]; omega
set_option maxRecDepth 100000 in
set_option maxHeartbeats 4000000 in
theorem few_c (ps : List OpI) (ap : Option Addr) (cp0 : Nat) (w : World) (hbig : ps.length ≤ 9223372036854775807) (hps : ∀ p ∈ ps, p.Ok w) (hO : SlF OpI.enc w ap ps) :
    CA Try.prog 23 [.slice ap ps.length cp0] w (RV (.bool (decide (ps.length ≤ 40 ∧ smo (ps.take 100) ≤ 6000))) w) := by
  refine enter (L := []) (X := []) Try.func23 rfl Try.ntmps23 rfl rfl (Has.nil _) ?_
  repeat (first | refine c_seq ?_ | (refine c_region (id := 0) ?_; refine sq qa ?_; refine l_nil ?_) | (refine c_region (id := 1) ?_; refine sq qa ?_; refine l_nil ?_) | (refine c_region (id := 2) ?_; refine sq qa ?_; refine l_nil ?_) | refine n_then ?_ | refine c_block ?_ | refine c_skip ?_ | refine n_block ?_ | refine c_exit ?_ | refine n_then_exit ?_ | refine n_block_eq ?_ | refine n_block_ne rfl ?_ | refine c_ret ?_ | refine n_then_ret ?_ | refine n_block_ret ?_ | refine c_cond_t rfl ?_ | refine c_cond_f rfl ?_ | refine r_succ ?_ )
  refine c_loop (γ := Nat) (fun z => [(4, .int .i64 ((z : Nat) : Int)), (3, .int .i64 ((smo (ps.take z) : Nat) : Int)), (0, .slice ap ps.length cp0)]) (fun _ => w.heap.size) (fun _ => []) (fun z => z ≤ ps.length ∧ z ≤ 100) (fun z => ps.length - z) 0 (by omega) ⟨rfl, rfl, rfl, trivial⟩ rfl (by (repeat (first | exact List.nil_sublist _ | exact List.Sublist.slnil | apply List.Sublist.cons_cons | exact List.Sublist.refl _ | apply List.Sublist.cons))) ?_
  intro i hi
  have hi' : i ≤ ps.length ∧ i ≤ 100 := hi
  obtain ⟨hi1, hi2⟩ := hi'
  by_cases h1 : i < ps.length
  · by_cases h2 : i < 100
    · obtain ⟨p, hpi⟩ : ∃ p, ps[i]? = some p := ⟨_, List.getElem?_eq_getElem h1⟩
      have hpl := (hps p (List.mem_of_getElem? hpi)).m
      obtain ⟨g, o, rfl, hOk⟩ := hO.get h1
      have hz : nth (ps.flatMap OpI.enc) (i * 4 + 3) = some (.slice p.a p.len p.cap) := by rw [flat_nth OpI.enc_len hpi (by omega)]; rfl
      have hsn := smo_take hpi
      have hsl := smo_le (ps.take i)
      have htl : (ps.take i).length ≤ i := List.length_take_le _ _
      obtain ⟨s, hs⟩ : ∃ s, s = smo (ps.take i) := ⟨_, rfl⟩
      rw [← hs] at hsn hsl ⊢
      repeat (first | refine c_seq ?_ | (refine c_region (id := 3) ?_; refine sq qm ?_; refine sq qm ?_; refine sq qls ?_; refine sq (by first | exact dlsst | exact dlssf) ?_; refine sq qm ?_; (first | refine sk ?_ | refine skv ?_ | (refine st_want rfl rfl ?_; refine sq qm ?_)); (first | refine sk ?_ | refine skv ?_ | (refine st_want rfl rfl ?_; refine sq (by first | exact dlsst | exact dlssf) ?_)); refine sq (by first | exact qpt | exact qpf) ?_; refine l_nil ?_) | (refine c_region (id := 4) ?_; refine sq qm ?_; refine sq qadd64 ?_; refine sq qa ?_; refine l_nil ?_) | (refine c_region (id := 5) ?_; refine sq qm ?_; refine sq qm ?_; refine sq qm ?_; refine sq (by exact qis (o' := o + i * 4) (ho := by omega)) ?_; refine sq qf ?_; refine sq (by exact q_load rfl (by have h9 := Rd.oldn (X := []) (L := []) hOk hz (by simp); rw [← Nat.add_assoc] at h9; exact h9)) ?_; refine sq qls ?_; refine sq (by exact Qt.cast (v' := .int .i64 ((min p.len 4000 : Nat) : Int)) (congrArg (Value.int .i64) (by split <;> omega)) (q_min rfl rfl)) ?_; refine sq (by exact Qt.cast (v' := .int .i64 ((s + min p.len 4000 : Nat) : Int)) (congrArg (Value.int .i64) (by omega)) (q_add64 rfl rfl ⟨by omega, by omega⟩ rfl)) ?_; refine sq qa ?_; refine l_nil ?_) | refine n_then ?_ | refine c_block ?_ | refine c_skip ?_ | refine n_block ?_ | refine c_exit ?_ | refine n_then_exit ?_ | refine n_block_eq ?_ | refine n_block_ne rfl ?_ | refine c_ret ?_ | refine n_then_ret ?_ | refine n_block_ret ?_ | refine c_cond_t rfl ?_ | refine c_cond_f rfl ?_ | refine r_succ ?_ )
      refine c_round (γ := Nat) (i + 1) ?_ ?_ ?_ ?_ ?_
      · show i + 1 ≤ ps.length ∧ i + 1 ≤ 100; omega
      · show ps.length - (i + 1) < ps.length - i; omega
      · rw [hsn]; exact ⟨rfl, rfl, rfl, trivial⟩
      · rfl
      · exact (by (repeat (first | exact List.nil_sublist _ | exact List.Sublist.slnil | apply List.Sublist.cons_cons | exact List.Sublist.refl _ | apply List.Sublist.cons)))
    · obtain rfl : i = 100 := by omega
      repeat (first | refine c_seq ?_ | (refine c_region (id := 3) ?_; refine sq qm ?_; refine sq qm ?_; refine sq qls ?_; refine sq (by first | exact dlsst | exact dlssf) ?_; refine sq qm ?_; (first | refine sk ?_ | refine skv ?_ | (refine st_want rfl rfl ?_; refine sq qm ?_)); (first | refine sk ?_ | refine skv ?_ | (refine st_want rfl rfl ?_; refine sq (by first | exact dlsst | exact dlssf) ?_)); refine sq (by first | exact qpt | exact qpf) ?_; refine l_nil ?_) | refine n_then ?_ | refine c_block ?_ | refine c_skip ?_ | refine n_block ?_ | refine c_exit ?_ | refine n_then_exit ?_ | refine n_block_eq ?_ | refine n_block_ne rfl ?_ | refine c_ret ?_ | refine n_then_ret ?_ | refine n_block_ret ?_ | refine c_cond_t rfl ?_ | refine c_cond_f rfl ?_ | refine r_succ ?_ )
      have hd : decide (ps.length ≤ 40 ∧ smo (ps.take 100) ≤ 6000) = false := by rw [decide_eq_false_iff_not]; omega
      rw [hd]
      repeat (first | refine c_seq ?_ | (refine c_region (id := 6) ?_; refine sq qm ?_; refine sq qls ?_; refine sq (by first | exact dleqt | exact dleqf) ?_; refine sq qm ?_; (first | refine sk ?_ | refine skv ?_ | (refine st_want rfl rfl ?_; refine sq qm ?_)); (first | refine sk ?_ | refine skv ?_ | (refine st_want rfl rfl ?_; refine sq (by first | exact dleqt | exact dleqf) ?_)); refine sq (by first | exact qpt | exact qpf) ?_; refine sq qa ?_; refine l_nil ?_) | refine n_then ?_ | refine c_block ?_ | refine c_skip ?_ | refine n_block ?_ | refine c_exit ?_ | refine n_then_exit ?_ | refine n_block_eq ?_ | refine n_block_ne rfl ?_ | refine c_ret ?_ | refine n_then_ret ?_ | refine n_block_ret ?_ | refine c_cond_t rfl ?_ | refine c_cond_f rfl ?_ | refine r_succ ?_ )
      (first | apply r_ret () | apply r_end ()); exact rfl; exact rfl; exact (.tmp rfl .nil); exact rfl; exact (List.nil_sublist _); exact new_nil; exact trivial
  · obtain rfl : i = ps.length := by omega
    repeat (first | refine c_seq ?_ | (refine c_region (id := 3) ?_; refine sq qm ?_; refine sq qm ?_; refine sq qls ?_; refine sq (by first | exact dlsst | exact dlssf) ?_; refine sq qm ?_; (first | refine sk ?_ | refine skv ?_ | (refine st_want rfl rfl ?_; refine sq qm ?_)); (first | refine sk ?_ | refine skv ?_ | (refine st_want rfl rfl ?_; refine sq (by first | exact dlsst | exact dlssf) ?_)); refine sq (by first | exact qpt | exact qpf) ?_; refine l_nil ?_) | refine n_then ?_ | refine c_block ?_ | refine c_skip ?_ | refine n_block ?_ | refine c_exit ?_ | refine n_then_exit ?_ | refine n_block_eq ?_ | refine n_block_ne rfl ?_ | refine c_ret ?_ | refine n_then_ret ?_ | refine n_block_ret ?_ | refine c_cond_t rfl ?_ | refine c_cond_f rfl ?_ | refine r_succ ?_ )
    have htk : ps.take 100 = ps := List.take_of_length_le (by omega)
    rw [htk]
    rw [List.take_length]
    by_cases h8 : ps.length ≤ 40
    · by_cases h25 : smo ps ≤ 6000
      · rw [decide_eq_true (show ps.length ≤ 40 ∧ smo ps ≤ 6000 from ⟨h8, h25⟩)]
        repeat (first | refine c_seq ?_ | (refine c_region (id := 6) ?_; refine sq qm ?_; refine sq qls ?_; refine sq (by first | exact dleqt | exact dleqf) ?_; refine sq qm ?_; (first | refine sk ?_ | refine skv ?_ | (refine st_want rfl rfl ?_; refine sq qm ?_)); (first | refine sk ?_ | refine skv ?_ | (refine st_want rfl rfl ?_; refine sq (by first | exact dleqt | exact dleqf) ?_)); refine sq (by first | exact qpt | exact qpf) ?_; refine sq qa ?_; refine l_nil ?_) | refine n_then ?_ | refine c_block ?_ | refine c_skip ?_ | refine n_block ?_ | refine c_exit ?_ | refine n_then_exit ?_ | refine n_block_eq ?_ | refine n_block_ne rfl ?_ | refine c_ret ?_ | refine n_then_ret ?_ | refine n_block_ret ?_ | refine c_cond_t rfl ?_ | refine c_cond_f rfl ?_ | refine r_succ ?_ )
        (first | apply r_ret () | apply r_end ()); exact rfl; exact rfl; exact (.tmp rfl .nil); exact rfl; exact (List.nil_sublist _); exact new_nil; exact trivial
      · rw [decide_eq_false (show ¬(ps.length ≤ 40 ∧ smo ps ≤ 6000) by omega)]
        repeat (first | refine c_seq ?_ | (refine c_region (id := 6) ?_; refine sq qm ?_; refine sq qls ?_; refine sq (by first | exact dleqt | exact dleqf) ?_; refine sq qm ?_; (first | refine sk ?_ | refine skv ?_ | (refine st_want rfl rfl ?_; refine sq qm ?_)); (first | refine sk ?_ | refine skv ?_ | (refine st_want rfl rfl ?_; refine sq (by first | exact dleqt | exact dleqf) ?_)); refine sq (by first | exact qpt | exact qpf) ?_; refine sq qa ?_; refine l_nil ?_) | refine n_then ?_ | refine c_block ?_ | refine c_skip ?_ | refine n_block ?_ | refine c_exit ?_ | refine n_then_exit ?_ | refine n_block_eq ?_ | refine n_block_ne rfl ?_ | refine c_ret ?_ | refine n_then_ret ?_ | refine n_block_ret ?_ | refine c_cond_t rfl ?_ | refine c_cond_f rfl ?_ | refine r_succ ?_ )
        (first | apply r_ret () | apply r_end ()); exact rfl; exact rfl; exact (.tmp rfl .nil); exact rfl; exact (List.nil_sublist _); exact new_nil; exact trivial
    · rw [decide_eq_false (show ¬(ps.length ≤ 40 ∧ smo ps ≤ 6000) by omega)]
      repeat (first | refine c_seq ?_ | (refine c_region (id := 6) ?_; refine sq qm ?_; refine sq qls ?_; refine sq (by first | exact dleqt | exact dleqf) ?_; refine sq qm ?_; (first | refine sk ?_ | refine skv ?_ | (refine st_want rfl rfl ?_; refine sq qm ?_)); (first | refine sk ?_ | refine skv ?_ | (refine st_want rfl rfl ?_; refine sq (by first | exact dleqt | exact dleqf) ?_)); refine sq (by first | exact qpt | exact qpf) ?_; refine sq qa ?_; refine l_nil ?_) | refine n_then ?_ | refine c_block ?_ | refine c_skip ?_ | refine n_block ?_ | refine c_exit ?_ | refine n_then_exit ?_ | refine n_block_eq ?_ | refine n_block_ne rfl ?_ | refine c_ret ?_ | refine n_then_ret ?_ | refine n_block_ret ?_ | refine c_cond_t rfl ?_ | refine c_cond_f rfl ?_ | refine r_succ ?_ )
      (first | apply r_ret () | apply r_end ()); exact rfl; exact rfl; exact (.tmp rfl .nil); exact rfl; exact (List.nil_sublist _); exact new_nil; exact trivial
theorem tornF_RB {a b : Nat → Int} {k : Int} (ha : RB a) (hb : RB b) : RB (tornF a b k) := ⟨fun j => by
  unfold tornF
  split <;> split
  · exact hb.h j
  · exact ha.h j
  · exact ha.h j
  · exact hb.h j⟩
theorem mFind_RB {M : List (ME (Nat → Int))} (h : ∀ e ∈ M, RB e.2.1) (i : Int) : RB ((mFind M i).getD fun _ => 0) := by
  unfold mFind
  cases e : M.find? fun e => e.1 == i with
  | none => exact RB.zero
  | some x => exact h x (List.mem_of_find?_eq_some e)
theorem crashK_RB {M : List (ME (Nat → Int))} (h : ∀ e ∈ M, RB e.2.1) (fate : List Int) : ∀ (is : List Int) (t : Nat) (secs : List (Nat → Int)), (∀ i : Nat, RB ((secs[i]?).getD fun _ => 0)) → ∀ i : Nat, RB (((crashK M fate t is secs)[i]?).getD fun _ => 0)
  | [], _, _, hs, i => hs i
  | k :: is, t, secs, hs, i => by
    rw [crashK]
    refine crashK_RB h fate is (t + 1) _ (fun j => ?_) i
    rw [List.getElem?_set]
    split
    · split
      · exact tornF_RB (mFind_RB h k) (hs _)
      · exact RB.zero
    · exact hs j
theorem RG.crash {D : Dk} (h : RG D) (fate : List Int) : RG (D.crash fate) := ⟨fun i => crashK_RB h.m fate _ _ _ h.s i, fun e he => by simp [Dk.crash] at he⟩
theorem crash_free (D : Dk) (fate : List Int) : (D.crash fate).Free := ⟨rfl, rfl⟩
theorem LogAt.head {D : Dk} {fr kn : Nat} {h h' : Hd} {bs bs' : List Int} (hl : LogAt D fr kn h bs) (hfr : fr + kn ≤ D.secs.length) (hk : 3 ≤ kn) (hf : D.Free) (hg : RG D) (hK : HdK h') (hs : h'.ser = h.ser + 1) (hs0 : 0 ≤ h.ser) (hc : h'.cnt = bs'.length) (hroom : bs'.length ≤ (kn - 2) * 64) (hb : rmL (fun i => D.at (fr + i)) bs'.length = bs') (p : Nat) (hp : (p : Int) = h'.ser % 2) :
    WF [(fr + p, secH h')] D (wrAll [(fr + p, secH h')] D) ∧ LogAt (wrAll [(fr + p, secH h')] D).2 fr kn h' bs' := by
  have hp2 : p < 2 := by omega
  have hw := wrAll_free [(fr + p, secH h')] D (fun e he => by simp only [List.mem_singleton] at he; subst he; exact ⟨by dsimp only; omega, secH_RB hK⟩) hf hg
  have hat := wrHead_at (fr + p) (secH h') D hf (by omega)
  refine ⟨hw, ⟨?_, hc, hroom, ?_⟩⟩
  · refine next_head hl.st hK hs hs0 (by rw [hc]; exact_mod_cast hroom) p hp ?_ ?_
    · rw [hat, if_pos rfl]
    · rw [hat, if_neg (by omega)]
  · refine rmL_ext fun q hq => ?_
    rw [hat, if_neg (by omega)]
    exact rmL_get hb q hq
structure PJ (kn i : Nat) (D : Dk) (h : Hd) (bs : List Int) : Prop where
  ok : D.OK (kn + 1)
  fre : D.Free
  rg : RG D
  m : D.M = []
  lat : LogAt D 1 kn h bs
  K : HdK h
  rng : ∀ x ∈ bs, 0 ≤ x ∧ x ≤ 255
  cl : D.cl ≤ 13 * i
theorem PJ.app {kn i : Nat} {D : Dk} {h h1 : Hd} {bs ys : List Int} (hJ : PJ kn i D h bs) (hk : 3 ≤ kn ∧ kn ≤ 11) (hi : i ≤ 40) (hs : h1.ser = h.ser + 1) (hs0 : h.ser < 4611686018427387904) (hc : h1.cnt = (bs ++ ys).length) (hroom : (bs ++ ys).length ≤ (kn - 2) * 64) (hys : ∀ x ∈ ys, 0 ≤ x ∧ x ≤ 255) (hnt : RB h1.nt) (hhi : ∀ j, 16 ≤ j → h1.nt j = 0) (p : Nat) (hp : (p : Int) = h1.ser % 2) : (appR 1 p h1 bs ys D).1 = true ∧ PJ kn (i + 1) (appR 1 p h1 bs ys D).2 h1 (bs ++ ys) := by
  have hK0 := hJ.K.ser
  have hK : HdK h1 := ⟨⟨by omega, by omega⟩, ⟨by omega, by omega⟩, hnt, hhi⟩
  have hrr : ∀ x ∈ bs ++ ys, 0 ≤ x ∧ x ≤ 255 := fun x hx => (List.mem_append.1 hx).elim (hJ.rng x) (hys x)
  obtain ⟨k1, k2, k3, k4, k5, k6, k7⟩ := hJ.lat.append (h' := h1) (ys := ys) (by rw [hJ.ok.len]; omega) hk.1 hJ.fre hJ.rg hK hs hK0.1 hc hroom hrr p hp
  have hcl := hJ.cl
  exact ⟨k1, appR_OK hJ.ok (by omega) (by omega), k3, k4, k5, k2, hK, hrr, by omega⟩
theorem PJ.clr {kn i : Nat} {D : Dk} {h h1 : Hd} {bs : List Int} (hJ : PJ kn i D h bs) (hk : 3 ≤ kn ∧ kn ≤ 11) (hs : h1.ser = h.ser + 1) (hs0 : h.ser < 4611686018427387904) (hc : h1.cnt = (0 : Nat)) (hnt : h1.nt = h.nt) (p : Nat) (hp : (p : Int) = h1.ser % 2) : (wrAll [(1 + p, secH h1)] D).1 = true ∧ PJ kn (i + 1) (wrAll [(1 + p, secH h1)] D).2 h1 [] := by
  have hK0 := hJ.K.ser
  have hK : HdK h1 := ⟨⟨by omega, by omega⟩, ⟨by omega, by omega⟩, by rw [hnt]; exact hJ.K.nt, by rw [hnt]; exact hJ.K.hi⟩
  obtain ⟨hw, hl⟩ := hJ.lat.head (h' := h1) (bs' := []) (by rw [hJ.ok.len]; omega) hk.1 hJ.fre hJ.rg hK hs hK0.1 hc (by simp) rfl p hp
  have hcl := hJ.cl
  have hcw := hw.cl
  simp only [List.length_singleton] at hcw
  exact ⟨hw.ok, wrAll_OK _ _ (fun e he => by simp only [List.mem_singleton] at he; subst he; dsimp only; omega) hJ.ok, hw.free, hw.rg, hw.m, hl, hK, by simp, by omega⟩
end Go.Proofs.Ytaccldkgopeggaa
namespace Go.Proofs.Ytaccldkgopeggaa
open Go Go.RowKit
set_option linter.unusedVariables false
set_option linter.unusedSimpArgs false
theorem hd64 {F G : Nat → Int} (h : ∀ j, j < 64 → F j = G j) : hdOf F = hdOf G ∧ (hdS F ↔ hdS G) := by
  have hn : ∀ o k, o + k ≤ 64 → numB F o k = numB G o k := by
    intro o k
    induction k with
    | zero => intro _; rfl
    | succ k ih => intro hk; rw [numB, numB, ih (by omega), h _ (by omega)]
  refine ⟨?_, ?_⟩
  · unfold hdOf
    rw [hn 0 8 (by omega), hn 8 8 (by omega)]
    congr 1
    funext j
    by_cases hj : j < 16
    · rw [if_pos hj, if_pos hj, h _ (by omega)]
    · rw [if_neg hj, if_neg hj]
  · unfold hdS
    constructor
    · intro hf j hj
      rw [← h j (by omega), ← h _ (by omega)]; exact hf j hj
    · intro hf j hj
      rw [h j (by omega), h _ (by omega)]; exact hf j hj
theorem stepH64 {room p : Nat} {s : Hd} {F G : Nat → Int} (h : ∀ j, j < 64 → F j = G j) : stepH room p s F = stepH room p s G := by
  obtain ⟨h1, h2⟩ := hd64 h
  unfold stepH hdU
  simp only [h1, h2]
theorem stI64 {room : Nat} {Fs Gs : Nat → Nat → Int} (h0 : ∀ j, j < 64 → Fs 0 j = Gs 0 j) (h1 : ∀ j, j < 64 → Fs 1 j = Gs 1 j) : stI room Fs 2 = stI room Gs 2 := by
  show stepH room 1 (stepH room 0 hdZ (Fs 0)) (Fs 1) = stepH room 1 (stepH room 0 hdZ (Gs 0)) (Gs 1)
  rw [stepH64 h0, stepH64 h1]
theorem no_head {room : Nat} {Fs Gs : Nat → Nat → Int} {h : Hd} (hF : stI room Fs 2 = h) (p : Nat) (hp : (p : Int) = (h.ser + 1) % 2) (hO : Gs (1 - p) = Fs (1 - p)) (hn : ¬ hdS (Gs p)) : stI room Gs 2 = h := by
  have hF : stepH room 1 (stepH room 0 hdZ (Fs 0)) (Fs 1) = h := hF
  show stepH room 1 (stepH room 0 hdZ (Gs 0)) (Gs 1) = h
  have hz : hdZ.ser = 0 := rfl
  have hev : (stepH room 0 hdZ (Fs 0)).ser % 2 = 0 ∧ 0 ≤ (stepH room 0 hdZ (Fs 0)).ser := by
    unfold stepH
    split
    · rename_i hu; exact ⟨hu.2.2.1, by have := hu.2.2.2; omega⟩
    · exact ⟨rfl, by decide⟩
  obtain rfl | rfl : p = 0 ∨ p = 1 := by omega
  · have hG1 : Gs 1 = Fs 1 := hO
    have e1 : stepH room 0 hdZ (Gs 0) = hdZ := if_neg fun hu => hn hu.1
    rw [e1, hG1]
    generalize stepH room 0 hdZ (Fs 0) = s1 at hF hev
    unfold stepH at hF
    split at hF
    · rename_i hu
      have h4 := hu.2.2.2
      unfold stepH
      rw [if_pos ⟨hu.1, hu.2.1, hu.2.2.1, by omega⟩]
      exact hF
    · exfalso
      rw [hF] at hev
      omega
  · have hG0 : Gs 0 = Fs 0 := hO
    rw [hG0]
    have e1 : ∀ s, stepH room 1 s (Gs 1) = s := fun s => if_neg fun hu => hn hu.1
    rw [e1]
    rw [stepH] at hF
    split at hF
    · rename_i hu
      have h3 := hu.2.2.1
      rw [hF] at h3
      omega
    · exact hF
theorem torn_di {B N : Nat → Int} (hB : hdS B) (hN : hdS N) (c : Int) : ¬ hdS (tornF B N c) ∨ (∀ j, j < 64 → tornF B N c j = B j) ∨ (∀ j, j < 64 → tornF B N c j = N j) := by
  by_cases hT : hdS (tornF B N c)
  · right
    unfold hdS at hT hB hN
    by_cases hc : c < 128
    · have hv : ∀ j, tornF B N c j = if j < (min c 64).toNat then N j else B j := fun j => by unfold tornF; rw [if_pos hc]
      by_cases hk : (min c 64).toNat ≤ 32
      · left
        have h2 : ∀ j, 32 ≤ j → tornF B N c j = B j := fun j hj => by rw [hv, if_neg (by omega)]
        intro j hj
        by_cases h3 : j < 32
        · rw [hT j h3, h2 _ (by omega), ← hB j h3]
        · exact h2 j (by omega)
      · right
        have h2 : ∀ j, j < 32 → tornF B N c j = N j := fun j hj => by rw [hv, if_pos (by omega)]
        intro j hj
        by_cases h3 : j < 32
        · exact h2 j h3
        · have h4 := hT (j - 32) (by omega)
          have h5 := hN (j - 32) (by omega)
          rw [show 32 + (j - 32) = j by omega] at h4 h5
          rw [← h4, h2 _ (by omega), h5]
    · have hv : ∀ j, tornF B N c j = if j < (64 - min (c - 128) 64).toNat then B j else N j := fun j => by unfold tornF; rw [if_neg hc]
      by_cases hk : 32 ≤ (64 - min (c - 128) 64).toNat
      · left
        have h2 : ∀ j, j < 32 → tornF B N c j = B j := fun j hj => by rw [hv, if_pos (by omega)]
        intro j hj
        by_cases h3 : j < 32
        · exact h2 j h3
        · have h4 := hT (j - 32) (by omega)
          have h5 := hB (j - 32) (by omega)
          rw [show 32 + (j - 32) = j by omega] at h4 h5
          rw [← h4, h2 _ (by omega), h5]
      · right
        have h2 : ∀ j, 32 ≤ j → tornF B N c j = N j := fun j hj => by rw [hv, if_neg (by omega)]
        intro j hj
        by_cases h3 : j < 32
        · rw [hT j h3, h2 _ (by omega), ← hN j h3]
        · exact h2 j (by omega)
  · exact .inl hT
theorem torn_again (B N M : Nat → Int) (c : Int) (j : Nat) : tornF (tornF B N c) M c j = tornF B M c j := by
  unfold tornF
  split <;> split <;> rfl
theorem torn_cong {X Y M : Nat → Int} {c : Int} {j : Nat} (h : X j = Y j) : tornF X M c j = tornF Y M c j := by
  unfold tornF
  split <;> split <;> first | rfl | exact h
theorem torn_self (B : Nat → Int) (c : Int) (j : Nat) : tornF B B c j = B j := by
  unfold tornF
  split <;> split <;> rfl
def upd (Fs : Nat → Nat → Int) (p : Nat) (B : Nat → Int) (i : Nat) : Nat → Int := if i = p then B else Fs i
structure HS (room : Nat) (c : Int) (Fs : Nat → Nat → Int) (h : Hd) (p : Nat) : Prop where
  st : stI room Fs 2 = h
  own : hdS (Fs (1 - p))
  base : ∃ B N, hdS B ∧ (∀ j, j < 64 → Fs p j = tornF B N c j) ∧ stI room (upd Fs p B) 2 = h
theorem stI_two {room : Nat} {Fs Gs : Nat → Nat → Int} (p : Nat) (hp : p < 2) (h0 : Fs p = Gs p) (h1 : Fs (1 - p) = Gs (1 - p)) : stI room Fs 2 = stI room Gs 2 := by
  obtain rfl | rfl : p = 0 ∨ p = 1 := by omega
  · exact stI_at h0 h1
  · exact stI_at h1 h0
theorem stI_two64 {room : Nat} {Fs Gs : Nat → Nat → Int} (p : Nat) (hp : p < 2) (h0 : ∀ j, j < 64 → Fs p j = Gs p j) (h1 : Fs (1 - p) = Gs (1 - p)) : stI room Fs 2 = stI room Gs 2 := by
  obtain rfl | rfl : p = 0 ∨ p = 1 := by omega
  · exact stI64 h0 (fun j _ => by have h2 : Fs 1 = Gs 1 := h1; rw [h2])
  · exact stI64 (fun j _ => by have h2 : Fs 0 = Gs 0 := h1; rw [h2]) h0
theorem HS.cong {room : Nat} {c : Int} {Fs Gs : Nat → Nat → Int} {h : Hd} {p : Nat} (hp : p < 2) (hs : HS room c Fs h p) (h0 : Gs p = Fs p) (h1 : Gs (1 - p) = Fs (1 - p)) : HS room c Gs h p := by
  obtain ⟨B, N, k1, k2, k3⟩ := hs.base
  refine ⟨by rw [← hs.st]; exact stI_two p hp h0 h1, by rw [h1]; exact hs.own, B, N, k1, fun j hj => by rw [h0]; exact k2 j hj, ?_⟩
  rw [← k3]
  refine stI_two p hp ?_ ?_
  · simp [upd]
  · simp only [upd]
    rw [if_neg (by omega), if_neg (by omega), h1]
theorem HS.whole {room : Nat} {c : Int} {Fs Gs : Nat → Nat → Int} {h h' : Hd} {p : Nat} (hp : (p : Int) = h'.ser % 2) (hs : HS room c Fs h p) (hK : HdK h') (hser : h'.ser = h.ser + 1) (hs0 : 0 ≤ h.ser) (hc : h'.cnt ≤ room) (h0 : ∀ j, j < 64 → Gs p j = secH h' j) (h1 : Gs (1 - p) = Fs (1 - p)) : HS room c Gs h' (1 - p) := by
  have hp2 : p < 2 := by omega
  have hst : stI room Gs 2 = h' := by
    have h9 : stI room (upd Gs p (secH h')) 2 = h' := next_head hs.st hK hser hs0 hc p hp (by simp [upd]) (by simp only [upd]; rw [if_neg (by omega), h1])
    rw [← h9]
    refine stI_two64 p hp2 (fun j hj => ?_) ?_
    · simp only [upd, if_true]; exact h0 j hj
    · simp only [upd]; rw [if_neg (by omega)]
  refine ⟨hst, ?_, Gs (1 - p), Gs (1 - p), by rw [h1]; exact hs.own, fun j _ => (torn_self _ _ _).symm, ?_⟩
  · rw [show 1 - (1 - p) = p by omega]
    exact (hd64 h0).2.2 (secH_S h')
  · rw [← hst]
    refine stI_two p hp2 ?_ ?_
    · simp only [upd]; rw [if_neg (by omega)]
    · simp only [upd, if_true]
theorem HS.torn {room : Nat} {c : Int} {Fs Gs : Nat → Nat → Int} {h h' : Hd} {p : Nat} (hp : (p : Int) = h'.ser % 2) (hs : HS room c Fs h p) (hK : HdK h') (hser : h'.ser = h.ser + 1) (hs0 : 0 ≤ h.ser) (hc : h'.cnt ≤ room) (h0 : ∀ j, j < 64 → Gs p j = tornF (Fs p) (secH h') c j) (h1 : Gs (1 - p) = Fs (1 - p)) : HS room c Gs h p ∨ HS room c Gs h' (1 - p) := by
  have hp2 : p < 2 := by omega
  obtain ⟨B, N, k1, k2, k3⟩ := hs.base
  have hT : ∀ j, j < 64 → Gs p j = tornF B (secH h') c j := fun j hj => by
    rw [h0 j hj, torn_cong (k2 j hj), torn_again]
  have hB : stI room (upd Gs p B) 2 = h := by
    rw [← k3]
    refine stI_two p hp2 ?_ ?_
    · simp [upd]
    · simp only [upd]
      rw [if_neg (by omega), if_neg (by omega), h1]
  have hown : hdS (Gs (1 - p)) := by rw [h1]; exact hs.own
  rcases torn_di k1 (secH_S h') c with hd | hd | hd
  · left
    refine ⟨no_head hs.st p (by omega) h1 (fun hy => hd ((hd64 hT).2.1 hy)), hown, B, secH h', k1, hT, hB⟩
  · left
    refine ⟨?_, hown, B, secH h', k1, hT, hB⟩
    rw [← hB]
    refine stI_two64 p hp2 (fun j hj => ?_) ?_
    · simp only [upd, if_true]; rw [hT j hj, hd j hj]
    · simp only [upd]; rw [if_neg (by omega)]
  · right
    exact hs.whole hp hK hser hs0 hc (fun j hj => by rw [hT j hj, hd j hj]) h1
/-! ### what writes and a crash leave, byte by byte -/
structure Pw (D : Dk) (l : List (Nat × (Nat → Int))) (D' : Dk) : Prop where
  s : ∀ j x, D'.at j x = D.at j x ∨ ∃ e ∈ l, e.1 = j ∧ D'.at j x = e.2 x
  m : ∀ e' ∈ D'.M, 0 ≤ e'.1 ∧ ∀ x, e'.2.1 x = D.at e'.1.toNat x ∨ ∃ e ∈ l, e.1 = e'.1.toNat ∧ e'.2.1 x = e.2 x
theorem Pw.refl {D : Dk} (l : List (Nat × (Nat → Int))) (h : D.M = []) : Pw D l D := ⟨fun j x => .inl rfl, fun e' he => by rw [h] at he; simp at he⟩
theorem Pw.put {D D' : Dk} {l : List (Nat × (Nat → Int))} (h : Pw D l D') {e : Nat × (Nat → Int)} (he : e ∈ l) (hi : e.1 < D'.secs.length) : Pw D l (D'.lit.put e.1 e.2) := by
  refine ⟨fun j x => ?_, fun e' he' => ?_⟩
  · rw [put_at _ _ _ _ hi]
    split
    · rename_i hj; exact .inr ⟨e, he, hj.symm, rfl⟩
    · exact h.s j x
  · unfold Dk.put at he'
    split at he'
    · simp only [List.mem_append, List.mem_singleton] at he'
      rcases he' with he' | rfl
      · exact h.m e' he'
      · exact ⟨by simp, fun x => by simpa [Dk.at, Dk.lit] using h.s e.1 x⟩
    · exact h.m e' he'
theorem wrAll_Pw {D : Dk} {l : List (Nat × (Nat → Int))} : ∀ (l' : List (Nat × (Nat → Int))) (D' : Dk), (∀ e ∈ l', e ∈ l ∧ e.1 < D'.secs.length) → Pw D l D' → Pw D l (wrAll l' D').2
  | [], D', _, h => by
    unfold wrAll Dk.sy
    split
    · exact ⟨h.s, h.m⟩
    · exact ⟨h.s, fun e' he => by simp [Dk.still] at he⟩
  | e :: l', D', hl, h => by
    unfold wrAll
    split
    · exact ⟨h.s, h.m⟩
    · have h1 := hl e (List.mem_cons_self ..)
      exact wrAll_Pw l' _ (fun e' he => by rw [put_slen]; exact hl e' (List.mem_cons_of_mem _ he)) (h.put h1.1 h1.2)
theorem torn_or (a b : Nat → Int) (k : Int) (x : Nat) : tornF a b k x = a x ∨ tornF a b k x = b x := by
  unfold tornF
  split <;> split
  · exact .inr rfl
  · exact .inl rfl
  · exact .inl rfl
  · exact .inr rfl
theorem crashK_Pw {P : Nat → Nat → Int → Prop} {M : List (ME (Nat → Int))} (hM : ∀ e' ∈ M, ∀ x, P e'.1.toNat x (e'.2.1 x)) (fate : List Int) : ∀ (is : List Int) (t : Nat) (secs : List (Nat → Int)), (∀ i ∈ is, i ∈ M.map (·.1)) → (∀ (j : Nat) x, P j x (((secs[j]?).getD fun _ => 0) x)) → ∀ (j : Nat) x, P j x ((((crashK M fate t is secs)[j]?).getD fun _ => 0) x)
  | [], _, _, _, hs, j, x => hs j x
  | i :: is, t, secs, hi, hs, j, x => by
    rw [crashK]
    refine crashK_Pw hM fate is (t + 1) _ (fun k hk => hi k (List.mem_cons_of_mem _ hk)) (fun j x => ?_) j x
    rw [List.getElem?_set]
    split
    · rename_i hj
      split
      · obtain ⟨e, he, hei⟩ := List.mem_map.1 (hi i (List.mem_cons_self ..))
        have hf : ∃ e' ∈ M, e'.1 = i ∧ mFind M i = some e'.2.1 := by
          unfold mFind
          cases hq : M.find? fun e => e.1 == i with
          | none => rw [List.find?_eq_none] at hq; exact absurd (by simp [hei]) (hq e he)
          | some e' => exact ⟨e', List.mem_of_find?_eq_some hq, by simpa using List.find?_some hq, rfl⟩
        obtain ⟨e', he', h1, h2⟩ := hf
        rw [h2]
        simp only [Option.getD_some]
        have hA := hM e' he' x
        rw [h1, hj] at hA
        have hBx := hs j x
        rw [hj]
        rcases torn_or e'.2.1 ((secs[j]?).getD fun _ => 0) (fateN fate t) x with h3 | h3
        · rw [h3]; exact hA
        · rw [h3]; exact hBx
      · have hBx := hs j x
        rename_i hlt
        rw [List.getElem?_eq_none (by omega)] at hBx
        exact hBx
    · exact hs j x
theorem crash_Pw {D D' : Dk} {l : List (Nat × (Nat → Int))} (h : Pw D l D') (fate : List Int) : ∀ j x, (D'.crash fate).at j x = D.at j x ∨ ∃ e ∈ l, e.1 = j ∧ (D'.crash fate).at j x = e.2 x := by
  have h1 := crashK_Pw (P := fun j x v => v = D.at j x ∨ ∃ e ∈ l, e.1 = j ∧ v = e.2 x) (M := D'.M) (fun e' he x => (h.m e' he).2 x) fate (keysOf D'.M) 0 D'.secs (fun i hi => (List.mergeSort_perm _ _).mem_iff.1 hi) (fun j x => h.s j x)
  exact h1
theorem crash_nil {D : Dk} (h : D.M = []) (fate : List Int) : (D.crash fate).secs = D.secs := by
  unfold Dk.crash keysOf
  rw [h]
  simp [crashK]
theorem crash_at_nil {D : Dk} (h : D.M = []) (fate : List Int) (j : Nat) : (D.crash fate).at j = D.at j := by
  unfold Dk.at; rw [crash_nil h]
theorem crash1_at {D : Dk} (h : D.M = []) (i : Nat) (f : Nat → Int) (hi : i < D.secs.length) (fate : List Int) (j : Nat) : ((D.lit.put i f).dead.crash fate).at j = if j = i then tornF (D.at i) f (fateN fate 0) else D.at j := by
  have hm : mFind D.M (i : Int) = none := by rw [h]; rfl
  have hp : D.lit.put i f = { D.lit with secs := D.secs.set i f, M := [((i : Int), D.at i, D.cl)], cl := D.cl + 1 } := by
    unfold Dk.put
    have hm2 : mFind D.lit.M (i : Int) = none := hm
    rw [hm2]
    show ({ D.lit with secs := D.secs.set i f, M := D.M ++ [_], cl := D.cl + 1 } : Dk) = _
    rw [h]; rfl
  unfold Dk.at
  rw [hp]
  have hk : keysOf [((i : Int), D.at i, D.cl)] = [(i : Int)] := by simp [keysOf]
  show (((crashK _ fate 0 (keysOf [((i : Int), D.at i, D.cl)]) (D.secs.set i f))[j]?).getD _) = _
  rw [hk]
  simp only [crashK]
  have hmf : mFind [((i : Int), D.at i, D.cl)] (i : Int) = some (D.at i) := by simp [mFind]
  rw [show (Dk.dead _).M = [((i : Int), D.at i, D.cl)] from rfl, hmf]
  simp only [Option.getD_some, Int.toNat_natCast]
  rw [List.getElem?_set]
  by_cases e : j = i
  · subst e
    simp [hi, Dk.at]
  · rw [if_neg (fun h => e h.symm), if_neg e, List.getElem?_set_ne (fun h => e h.symm)]
end Go.Proofs.Ytaccldkgopeggaa
namespace Go.Proofs.Ytaccldkgopeggaa
open Go Go.RowKit
set_option linter.unusedVariables false
set_option linter.unusedSimpArgs false
theorem wrAll_t : ∀ (l : List (Nat × (Nat → Int))) (D : Dk), (wrAll l D).1 = true → (wrAll l D).2.M = []
  | [], D, h => by
    unfold wrAll Dk.sy at h ⊢
    split at h
    · cases h
    · rename_i hp; rw [if_neg hp]; rfl
  | e :: l, D, h => by
    unfold wrAll at h ⊢
    split at h
    · cases h
    · rename_i hp; rw [if_neg hp]; exact wrAll_t l _ h
theorem wrRoom_t (fr : Nat) (xs : List Int) : ∀ (k q : Nat) (D : Dk), (wrAll (rmW fr xs k q) D).1 = true → fr + (2 + q + k) ≤ D.secs.length → ∀ j, (wrAll (rmW fr xs k q) D).2.at j = if fr + (2 + q) ≤ j ∧ j < fr + (2 + q + k) then secAt xs (j - fr - 2) else D.at j
  | 0, q, D, h, _, j => by
    unfold rmW wrAll Dk.sy at h ⊢
    split at h
    · cases h
    · rename_i hp; rw [if_neg hp, if_neg (by omega)]; rfl
  | k + 1, q, D, h, hl, j => by
    unfold rmW wrAll at h ⊢
    split at h
    · cases h
    · rename_i hp
      rw [if_neg hp]
      dsimp only at h ⊢
      rw [wrRoom_t fr xs k (q + 1) _ h (by rw [put_slen]; omega) j, put_at _ _ _ _ (by omega)]
      by_cases e : j = fr + (2 + q)
      · subst e
        rw [if_neg (by omega), if_pos rfl, if_pos (by omega)]
        congr 1
        omega
      · rw [if_neg e]
        by_cases e2 : fr + (2 + (q + 1)) ≤ j ∧ j < fr + (2 + (q + 1) + k)
        · rw [if_pos e2, if_pos (by omega)]
        · rw [if_neg e2, if_neg (by omega)]
theorem wrAll_gen : ∀ (l : List (Nat × (Nat → Int))) (D : Dk), (∀ e ∈ l, e.1 < D.secs.length ∧ RB e.2) → RG D → RG (wrAll l D).2 ∧ (wrAll l D).2.cl ≤ D.cl + l.length ∧ (wrAll l D).2.secs.length = D.secs.length
  | [], D, _, hg => by
    unfold wrAll Dk.sy
    split
    · exact ⟨hg.dead, Nat.le_refl _, rfl⟩
    · exact ⟨hg.still, Nat.le_refl _, rfl⟩
  | e :: l, D, hl, hg => by
    unfold wrAll
    obtain ⟨h1, h2⟩ := hl e (List.mem_cons_self ..)
    split
    · exact ⟨hg.dead, by show D.cl ≤ _; omega, rfl⟩
    · obtain ⟨k1, k2, k3⟩ := wrAll_gen l (D.lit.put e.1 e.2) (fun e' he => by rw [put_slen]; exact hl e' (List.mem_cons_of_mem _ he)) (hg.put _ h1 h2)
      have h5 := put_cl D.lit e.1 e.2
      have h6 : D.lit.cl = D.cl := rfl
      exact ⟨k1, by simp only [List.length_cons]; omega, by rw [k3, put_slen]⟩
theorem appR_gen {fr p : Nat} {h' : Hd} {bs ys : List Int} {D : Dk} (hg : RG D) (hK : HdK h') (hx : ∀ x ∈ bs ++ ys, 0 ≤ x ∧ x ≤ 255) (hp : p < 2) (hl : fr + 2 + ((bs ++ ys).length + 63) / 64 ≤ D.secs.length) : RG (appR fr p h' bs ys D).2 ∧ (appR fr p h' bs ys D).2.cl ≤ D.cl + ((bs ++ ys).length + 63) / 64 + 1 := by
  have key : ∀ D2 : Dk, RG D2 → D2.secs.length = D.secs.length → RG (wrAll [(fr + p, secH h')] D2).2 ∧ (wrAll [(fr + p, secH h')] D2).2.cl ≤ D2.cl + 1 := fun D2 h2 h3 => by
    obtain ⟨k1, k2, _⟩ := wrAll_gen [(fr + p, secH h')] D2 (fun e he => by simp only [List.mem_singleton] at he; subst he; exact ⟨by dsimp only; omega, secH_RB hK⟩) h2
    exact ⟨k1, k2⟩
  obtain ⟨w1, w2, w3⟩ := wrAll_gen (rmW fr (bs ++ ys) (((bs ++ ys).length + 63) / 64 - bs.length / 64) (bs.length / 64)) D (fun e he => ⟨by have h1 := rmW_lt _ _ e he; have h2 : (bs ++ ys).length = bs.length + ys.length := List.length_append; omega, rmW_RB hx _ _ e he⟩) hg
  rw [rmW_len] at w2
  unfold appR
  split
  · obtain ⟨k1, k2⟩ := key D hg rfl; exact ⟨k1, by omega⟩
  · split
    · obtain ⟨k1, k2⟩ := key _ w1 w3; exact ⟨k1, by omega⟩
    · exact ⟨w1, by omega⟩
theorem rmW_mem {fr : Nat} {xs : List Int} : ∀ (k q : Nat), ∀ e ∈ rmW fr xs k q, ∃ t, e = (fr + (2 + t), secAt xs t)
  | 0, _, e, h => by simp [rmW] at h
  | k + 1, q, e, h => by
    simp only [rmW, List.mem_cons] at h
    rcases h with rfl | h
    · exact ⟨q, rfl⟩
    · exact rmW_mem k (q + 1) e h
structure LS (c : Int) (D : Dk) (h : Hd) (bs : List Int) (p : Nat) : Prop where
  hs : HS 1472 c (fun i => D.at (3 + i)) h p
  cnt : h.cnt = bs.length
  le : bs.length ≤ 1472
  bytes : rmL (fun i => D.at (3 + i)) bs.length = bs
theorem LS.lat {c : Int} {D : Dk} {h : Hd} {bs : List Int} {p : Nat} (hl : LS c D h bs p) : LogAt D 3 25 h bs := ⟨hl.hs.st, hl.cnt, hl.le, hl.bytes⟩
theorem rmL_cong {Fs Gs : Nat → Nat → Int} {n : Nat} (h : ∀ i, 2 ≤ i → Gs i = Fs i) : rmL Gs n = rmL Fs n := by
  unfold rmL
  apply List.map_congr_left
  intro p _
  rw [h _ (by omega)]
theorem head_out {c : Int} {D : Dk} {h h' : Hd} {bs bs' : List Int} {p : Nat} (hM : D.M = []) (hlen : 28 ≤ D.secs.length) (hs : HS 1472 c (fun i => D.at (3 + i)) h p) (hp : (p : Int) = h'.ser % 2) (hK : HdK h') (hser : h'.ser = h.ser + 1) (hs0 : 0 ≤ h.ser) (hcb : h.cnt = bs.length) (hle : bs.length ≤ 1472) (hb : rmL (fun i => D.at (3 + i)) bs.length = bs) (hcb' : h'.cnt = bs'.length) (hle' : bs'.length ≤ 1472) (hb' : rmL (fun i => D.at (3 + i)) bs'.length = bs') (fate : List Int) (hfc : c = fateN fate 0) :
    ((wrAll [(3 + p, secH h')] D).1 = true → LS c ((wrAll [(3 + p, secH h')] D).2.crash fate) h' bs' (1 - p)) ∧ ((wrAll [(3 + p, secH h')] D).1 = false → LS c ((wrAll [(3 + p, secH h')] D).2.crash fate) h bs p ∨ LS c ((wrAll [(3 + p, secH h')] D).2.crash fate) h' bs' (1 - p)) := by
  have hp2 : p < 2 := by omega
  have hcr : h'.cnt ≤ (1472 : Nat) := by rw [hcb']; exact_mod_cast hle'
  unfold wrAll
  by_cases hg : D.pgone = true
  · rw [if_pos hg]
    refine ⟨fun h9 => (by cases h9), fun _ => .inl ?_⟩
    have hat : ∀ j, (D.dead.crash fate).at j = D.at j := crash_at_nil (D := D.dead) hM fate
    have hfe : (fun i => (D.dead.crash fate).at (3 + i)) = fun i => D.at (3 + i) := by funext i; exact hat _
    exact ⟨by (try dsimp only); rw [hfe]; exact hs, hcb, hle, by (try dsimp only); rw [hfe]; exact hb⟩
  · rw [if_neg hg]
    dsimp only
    unfold wrAll Dk.sy
    by_cases hg1 : (D.lit.put (3 + p) (secH h')).pgone = true
    · rw [if_pos hg1]
      refine ⟨fun h9 => (by cases h9), fun _ => ?_⟩
      have hat := crash1_at hM (3 + p) (secH h') (by omega) fate
      rw [← hfc] at hat
      have hr : ∀ i, 2 ≤ i → (fun i => ((D.lit.put (3 + p) (secH h')).dead.crash fate).at (3 + i)) i = (fun i => D.at (3 + i)) i := fun i hi => by
        (try dsimp only); rw [hat, if_neg (by omega)]
      rcases hs.torn (Gs := fun i => ((D.lit.put (3 + p) (secH h')).dead.crash fate).at (3 + i)) hp hK hser hs0 hcr (fun j _ => by (try dsimp only); rw [hat, if_pos rfl]) (by (try dsimp only); rw [hat, if_neg (by omega)]) with k | k
      · exact .inl ⟨k, hcb, hle, by rw [rmL_cong hr]; exact hb⟩
      · exact .inr ⟨k, hcb', hle', by rw [rmL_cong hr]; exact hb'⟩
    · rw [if_neg hg1]
      refine ⟨fun _ => ?_, fun h9 => (by cases h9)⟩
      have hat : ∀ j, ((D.lit.put (3 + p) (secH h')).lit.still.crash fate).at j = if j = 3 + p then secH h' else D.at j := fun j => by
        rw [crash_at_nil (D := (D.lit.put (3 + p) (secH h')).lit.still) rfl fate]
        exact put_at D (3 + p) j (secH h') (by omega)
      have hr : ∀ i, 2 ≤ i → (fun i => ((D.lit.put (3 + p) (secH h')).lit.still.crash fate).at (3 + i)) i = (fun i => D.at (3 + i)) i := fun i hi => by
        (try dsimp only); rw [hat, if_neg (by omega)]
      exact ⟨hs.whole hp hK hser hs0 hcr (fun j _ => by (try dsimp only); rw [hat, if_pos rfl]) (by (try dsimp only); rw [hat, if_neg (by omega)]), hcb', hle', by (try dsimp only); rw [rmL_cong hr]; exact hb'⟩
theorem app_out {c : Int} {D : Dk} {h h' : Hd} {bs ys : List Int} {p : Nat} (hM : D.M = []) (hlen : 28 ≤ D.secs.length) (hl : LS c D h bs p) (hp : (p : Int) = h'.ser % 2) (hK : HdK h') (hser : h'.ser = h.ser + 1) (hs0 : 0 ≤ h.ser) (hcb' : h'.cnt = (bs ++ ys).length) (hle' : (bs ++ ys).length ≤ 1472) (fate : List Int) (hfc : c = fateN fate 0) :
    ((appR 3 p h' bs ys D).1 = true → LS c ((appR 3 p h' bs ys D).2.crash fate) h' (bs ++ ys) (1 - p)) ∧ ((appR 3 p h' bs ys D).1 = false → LS c ((appR 3 p h' bs ys D).2.crash fate) h bs p ∨ LS c ((appR 3 p h' bs ys D).2.crash fate) h' (bs ++ ys) (1 - p)) := by
  have hp2 : p < 2 := by omega
  have hbs := rmL_get hl.bytes
  unfold appR
  by_cases hy : ys = []
  · subst hy
    rw [if_pos rfl]
    exact head_out hM hlen hl.hs hp hK hser hs0 hl.cnt hl.le hl.bytes hcb' hle' (by rw [List.append_nil]; exact hl.bytes) fate hfc
  · rw [if_neg hy]
    have hal : (bs ++ ys).length = bs.length + ys.length := List.length_append
    have hlt := fun e he => rmW_lt (fr := 3) (xs := bs ++ ys) (((bs ++ ys).length + 63) / 64 - bs.length / 64) (bs.length / 64) e he
    cases hb : (wrAll (rmW 3 (bs ++ ys) (((bs ++ ys).length + 63) / 64 - bs.length / 64) (bs.length / 64)) D).1 with
    | false =>
      rw [if_neg (by simp)]
      refine ⟨fun h9 => (by rw [hb] at h9; cases h9), fun _ => .inl ?_⟩
      have hpw := crash_Pw (wrAll_Pw (rmW 3 (bs ++ ys) (((bs ++ ys).length + 63) / 64 - bs.length / 64) (bs.length / 64)) D (fun e he => ⟨he, by have := hlt e he; omega⟩) (Pw.refl _ hM)) fate
      have hh : ∀ i, i < 2 → ((wrAll (rmW 3 (bs ++ ys) (((bs ++ ys).length + 63) / 64 - bs.length / 64) (bs.length / 64)) D).2.crash fate).at (3 + i) = D.at (3 + i) := fun i hi => by
        funext x
        rcases hpw (3 + i) x with k | ⟨e, he, k, _⟩
        · exact k
        · have := hlt e he; omega
      refine ⟨hl.hs.cong hp2 (hh p hp2) (hh _ (by omega)), hl.cnt, hl.le, rmL_ext fun q hq => ?_⟩
      try dsimp only
      rw [← hbs q hq]
      rcases hpw (3 + (2 + q / 64)) (q % 64) with k | ⟨e, he, k1, k2⟩
      · exact k
      · obtain ⟨t9, rfl⟩ := rmW_mem _ _ e he
        dsimp only at k1 k2
        have ht : t9 = q / 64 := by omega
        rw [k2, ht, hbs q hq]
        have e2 : 64 * (q / 64) + q % 64 = q := by omega
        simp only [secAt]
        rw [if_pos (by omega), e2, List.getElem?_append_left hq, List.getElem?_eq_getElem hq, Option.getD_some]
    | true =>
      rw [if_pos rfl]
      have hat := wrRoom_t 3 (bs ++ ys) (((bs ++ ys).length + 63) / 64 - bs.length / 64) (bs.length / 64) D hb (by omega)
      have hM1 := wrAll_t _ _ hb
      have hl1 : (wrAll (rmW 3 (bs ++ ys) (((bs ++ ys).length + 63) / 64 - bs.length / 64) (bs.length / 64)) D).2.secs.length = D.secs.length := by
        have : ∀ (l : List (Nat × (Nat → Int))) (D : Dk), (wrAll l D).2.secs.length = D.secs.length := by
          intro l
          induction l with
          | nil => intro D; unfold wrAll Dk.sy; split <;> rfl
          | cons e l ih =>
            intro D
            unfold wrAll
            split
            · rfl
            · rw [ih, put_slen]
        exact this _ _
      refine head_out hM1 (by omega) (hl.hs.cong hp2 (by (try dsimp only); rw [hat, if_neg (by omega)]) (by (try dsimp only); rw [hat, if_neg (by omega)])) hp hK hser hs0 hl.cnt hl.le ?_ hcb' hle' ?_ fate hfc
      · refine rmL_ext fun q hq => ?_
        try dsimp only
        rw [hat, ← hbs q hq]
        by_cases e : 3 + (2 + bs.length / 64) ≤ 3 + (2 + q / 64)
        · rw [if_pos (by omega)]
          have e1 : 3 + (2 + q / 64) - 3 - 2 = q / 64 := by omega
          rw [e1, hbs q hq]
          have e2 : 64 * (q / 64) + q % 64 = q := by omega
          simp only [secAt]
          rw [if_pos (by omega), e2, List.getElem?_append_left hq, List.getElem?_eq_getElem hq, Option.getD_some]
        · rw [if_neg (by omega)]
      · refine rmL_ext fun q hq => ?_
        try dsimp only
        rw [hat]
        by_cases e : 3 + (2 + bs.length / 64) ≤ 3 + (2 + q / 64)
        · rw [if_pos (by omega)]
          have e1 : 3 + (2 + q / 64) - 3 - 2 = q / 64 := by omega
          rw [e1]
          have e2 : 64 * (q / 64) + q % 64 = q := by omega
          simp only [secAt]
          rw [if_pos (by omega), e2, List.getElem?_eq_getElem hq, Option.getD_some]
        · rw [if_neg (by omega)]
          have hq2 : q < bs.length := by omega
          rw [List.getElem_append_left hq2]
          exact hbs q hq2
def Dk.burn (D : Dk) (n : Int) : Dk := { D with fused := decide (0 ≤ n), fuse := max n 0 }
theorem Dk.OK.burn {k : Nat} {D : Dk} (h : D.OK k) {n : Int} (hn : n ≤ 9223372036854775807) : (D.burn n).OK k := ⟨h.len, h.n9, h.ks, h.bd, h.cl, h.bs, h.ml, by simp only [Dk.burn]; omega⟩
theorem LS.burn {c : Int} {D : Dk} {h : Hd} {bs : List Int} {p : Nat} (hl : LS c D h bs p) (n : Int) : LS c (D.burn n) h bs p := ⟨hl.hs, hl.cnt, hl.le, hl.bytes⟩
theorem RG.burn {D : Dk} (h : RG D) (n : Int) : RG (D.burn n) := ⟨h.s, h.m⟩
structure CJ (c : Int) (i : Nat) (D : Dk) (h : Hd) (bs : List Int) (p : Nat) : Prop where
  ok : D.OK 30
  fre : D.Free
  rg : RG D
  m : D.M = []
  ls : LS c D h bs p
  K : HdK h
  rng : ∀ x ∈ bs, 0 ≤ x ∧ x ≤ 255
  ser : h.ser ≤ i
  cl : D.cl ≤ 30 * i
  hp : (p : Int) = (h.ser + 1) % 2
theorem CJ.new (c : Int) : CJ c 0 (Dk.new 30) hdZ [] 1 := by
  have hf : (fun i => (Dk.new 30).at (3 + i)) = fun _ _ => 0 := by funext i; rw [Dk.new_at]
  refine ⟨Dk.OK.new 30 (by decide), ⟨rfl, rfl⟩, RG.new 30, rfl, ⟨⟨?_, ?_, fun _ => 0, fun _ => 0, fun j _ => rfl, fun j hj => ?_, ?_⟩, rfl, by decide, rfl⟩, hdZ_K, by simp, by decide, Nat.zero_le _, rfl⟩
  · rw [hf]; exact stI_zero _
  · (try dsimp only); rw [Dk.new_at]; exact fun j _ => rfl
  · (try dsimp only); rw [Dk.new_at, torn_self]
  · have hu : upd (fun i => (Dk.new 30).at (3 + i)) 1 (fun _ => 0) = fun _ _ => 0 := by
      funext i; unfold upd; split
      · rfl
      · exact Dk.new_at 30 _
    rw [hu]; exact stI_zero _
theorem CJ.app {c : Int} {i : Nat} {D : Dk} {h h1 : Hd} {bs ys : List Int} {p : Nat} (hJ : CJ c i D h bs p) (hi : i ≤ 40) (n : Int) (hn : n ≤ 9223372036854775807) (hs : h1.ser = h.ser + 1) (hc : h1.cnt = (bs ++ ys).length) (hroom : (bs ++ ys).length ≤ 1472) (hys : ∀ x ∈ ys, 0 ≤ x ∧ x ≤ 255) (hnt : RB h1.nt) (hhi : ∀ j, 16 ≤ j → h1.nt j = 0) (fate : List Int) (hfc : c = fateN fate 0) :
    ((appR 3 p h1 bs ys (D.burn n)).1 = true → CJ c (i + 1) ((appR 3 p h1 bs ys (D.burn n)).2.crash fate) h1 (bs ++ ys) (1 - p)) ∧ ((appR 3 p h1 bs ys (D.burn n)).1 = false → CJ c (i + 1) ((appR 3 p h1 bs ys (D.burn n)).2.crash fate) h bs p ∨ CJ c (i + 1) ((appR 3 p h1 bs ys (D.burn n)).2.crash fate) h1 (bs ++ ys) (1 - p)) := by
  have hser := hJ.ser
  have hcl := hJ.cl
  have hhp := hJ.hp
  have hK0 := hJ.K.ser
  have hK : HdK h1 := ⟨⟨by omega, by omega⟩, ⟨by omega, by omega⟩, hnt, hhi⟩
  have hrr : ∀ x ∈ bs ++ ys, 0 ≤ x ∧ x ≤ 255 := fun x hx => (List.mem_append.1 hx).elim (hJ.rng x) (hys x)
  have hokb := hJ.ok.burn hn
  obtain ⟨o1, o2⟩ := app_out (D := D.burn n) hJ.m (by rw [hokb.len]; decide) (hJ.ls.burn n) (h' := h1) (ys := ys) (by omega) hK hs hK0.1 hc hroom fate hfc
  obtain ⟨g1, g2⟩ := appR_gen (fr := 3) (p := p) (h' := h1) (bs := bs) (ys := ys) (hJ.rg.burn n) hK hrr (by omega) (by rw [hokb.len]; omega)
  have hokr : (appR 3 p h1 bs ys (D.burn n)).2.OK 30 := appR_OK hokb (by omega) (by omega)
  have hclb : (D.burn n).cl = D.cl := rfl
  have mk : ∀ (hh : Hd) (bb : List Int) (q : Nat), LS c ((appR 3 p h1 bs ys (D.burn n)).2.crash fate) hh bb q → HdK hh → (∀ x ∈ bb, 0 ≤ x ∧ x ≤ 255) → hh.ser ≤ (i + 1 : Nat) → (q : Int) = (hh.ser + 1) % 2 → CJ c (i + 1) ((appR 3 p h1 bs ys (D.burn n)).2.crash fate) hh bb q := fun hh bb q k1 k2 k3 k4 k5 =>
    ⟨hokr.crash fate, crash_free _ _, g1.crash fate, rfl, k1, k2, k3, k4, by show (appR 3 p h1 bs ys (D.burn n)).2.cl ≤ _; omega, k5⟩
  refine ⟨fun h9 => mk _ _ _ (o1 h9) hK hrr (by omega) (by omega), fun h9 => (o2 h9).imp (fun k => mk _ _ _ k hJ.K hJ.rng (by omega) hhp) (fun k => mk _ _ _ k hK hrr (by omega) (by omega))⟩
theorem CJ.clr {c : Int} {i : Nat} {D : Dk} {h h1 : Hd} {bs : List Int} {p : Nat} (hJ : CJ c i D h bs p) (hi : i ≤ 40) (n : Int) (hn : n ≤ 9223372036854775807) (hs : h1.ser = h.ser + 1) (hc : h1.cnt = (0 : Nat)) (hnt : h1.nt = h.nt) (fate : List Int) (hfc : c = fateN fate 0) :
    ((wrAll [(3 + p, secH h1)] (D.burn n)).1 = true → CJ c (i + 1) ((wrAll [(3 + p, secH h1)] (D.burn n)).2.crash fate) h1 [] (1 - p)) ∧ ((wrAll [(3 + p, secH h1)] (D.burn n)).1 = false → CJ c (i + 1) ((wrAll [(3 + p, secH h1)] (D.burn n)).2.crash fate) h bs p ∨ CJ c (i + 1) ((wrAll [(3 + p, secH h1)] (D.burn n)).2.crash fate) h1 [] (1 - p)) := by
  have hser := hJ.ser
  have hcl := hJ.cl
  have hhp := hJ.hp
  have hK0 := hJ.K.ser
  have hK : HdK h1 := ⟨⟨by omega, by omega⟩, ⟨by omega, by omega⟩, by rw [hnt]; exact hJ.K.nt, by rw [hnt]; exact hJ.K.hi⟩
  have hokb := hJ.ok.burn hn
  have hlb := hJ.ls.burn n
  obtain ⟨o1, o2⟩ := head_out (D := D.burn n) (bs' := []) hJ.m (by rw [hokb.len]; decide) hlb.hs (h' := h1) (by omega) hK hs hK0.1 hlb.cnt hlb.le hlb.bytes hc (by decide) rfl fate hfc
  obtain ⟨g1, g2, _⟩ := wrAll_gen [(3 + p, secH h1)] (D.burn n) (fun e he => by simp only [List.mem_singleton] at he; subst he; exact ⟨by rw [hokb.len]; dsimp only; omega, secH_RB hK⟩) (hJ.rg.burn n)
  have hokr : (wrAll [(3 + p, secH h1)] (D.burn n)).2.OK 30 := wrAll_OK _ _ (fun e he => by simp only [List.mem_singleton] at he; subst he; dsimp only; omega) hokb
  have hclb : (D.burn n).cl = D.cl := rfl
  simp only [List.length_singleton] at g2
  have mk : ∀ (hh : Hd) (bb : List Int) (q : Nat), LS c ((wrAll [(3 + p, secH h1)] (D.burn n)).2.crash fate) hh bb q → HdK hh → (∀ x ∈ bb, 0 ≤ x ∧ x ≤ 255) → hh.ser ≤ (i + 1 : Nat) → (q : Int) = (hh.ser + 1) % 2 → CJ c (i + 1) ((wrAll [(3 + p, secH h1)] (D.burn n)).2.crash fate) hh bb q := fun hh bb q k1 k2 k3 k4 k5 =>
    ⟨hokr.crash fate, crash_free _ _, g1.crash fate, rfl, k1, k2, k3, k4, by show (wrAll [(3 + p, secH h1)] (D.burn n)).2.cl ≤ _; omega, k5⟩
  refine ⟨fun h9 => mk _ _ _ (o1 h9) hK (by simp) (by omega) (by omega), fun h9 => (o2 h9).imp (fun k => mk _ _ _ k hJ.K hJ.rng (by omega) hhp) (fun k => mk _ _ _ k hK (by simp) (by omega) (by omega))⟩
theorem CJ.stay {c : Int} {i : Nat} {D : Dk} {h : Hd} {bs : List Int} {p : Nat} (hJ : CJ c i D h bs p) (n : Int) (hn : n ≤ 9223372036854775807) (fate : List Int) : CJ c (i + 1) ((D.burn n).crash fate) h bs p := by
  have hat : ∀ j, ((D.burn n).crash fate).at j = D.at j := fun j => by rw [crash_at_nil (D := D.burn n) hJ.m fate]; rfl
  have hfe : (fun i => ((D.burn n).crash fate).at (3 + i)) = fun i => D.at (3 + i) := by funext i; exact hat _
  have hser := hJ.ser
  have hcl := hJ.cl
  exact ⟨(hJ.ok.burn hn).crash fate, crash_free _ _, (hJ.rg.burn n).crash fate, rfl, ⟨by rw [hfe]; exact hJ.ls.hs, hJ.ls.cnt, hJ.ls.le, by rw [hfe]; exact hJ.ls.bytes⟩, hJ.K, hJ.rng, by omega, by show D.cl ≤ _; omega, hJ.hp⟩
end Go.Proofs.Ytaccldkgopeggaa
