/- StoreCrashes: what it needs, part 5. -/
import Derived.Test.YtgmghkakiocmjaaGreatDoorSStoreCrashesD
namespace Go.Proofs.YtgmghkakiocmjaaGreatDoor
open Go Go.RowKit
set_option linter.unusedVariables false
set_option linter.unusedSimpArgs false
theorem packL_take_len {ps : List CPrt} : ∀ (i : Nat), (∀ p ∈ ps.take i, p.xs.length ≤ 4096) → (packL (ps.take i)).length ≤ 4098 * i
  | 0, _ => by simp [packL]
  | i + 1, h => by
    have h1 := packL_take_len (ps := ps) i (fun p hp => h p (by rw [List.take_add_one]; exact List.mem_append_left _ hp))
    cases hp : ps[i]? with
    | none => rw [List.take_add_one, hp]; simp at h1 ⊢; omega
    | some p =>
      have h2 := h p (by rw [List.take_add_one, hp]; simp)
      have h3 := leb2 (n := p.xs.length) h2
      rw [packL_succ hp, List.length_append, List.length_append]
      omega
theorem take_all {ps : List CPrt} {i0 : Nat} {P : CPrt → Prop} (h : ∀ j p, j < i0 → ps[j]? = some p → P p) (i : Nat) (hi : i ≤ i0) : ∀ p ∈ ps.take i, P p := by
  intro p hp
  obtain ⟨j, hj, e⟩ := List.getElem_of_mem hp
  rw [List.length_take] at hj
  exact h j p (by omega) (by rw [List.getElem_take] at e; rw [← e]; exact List.getElem?_eq_getElem (by omega))
set_option maxRecDepth 100000 in
set_option maxHeartbeats 4000000 in
theorem packed_long (gs : Nat) (at_ : Bool) (ga : Nat) (ba : Option Addr) (ca : Nat) (ha : Hd) (bsa : List Int) (fra gb : Nat) (bb : Option Addr) (cb : Nat) (hb : Hd) (bsb : List Int) (frb room gd : Nat) (ap : Option Addr) (cp0 : Nat) (ps : List CPrt) (rm : Int) (A : Nat → Addr) (i0 : Nat) (hi0 : i0 ≤ 1000) (q : CPrt) (hq : ps[i0]? = some q) (hqb : 4096 < q.len) (hsm : ∀ j p, j < i0 → ps[j]? = some p → p.len ≤ 4096) (hpn : ps.length ≤ 1000000) (w : World) (hS : Has (StL gs at_ ga ba ca ha bsa fra gb bb cb hb bsb frb room gd) w) (hps : ∀ p ∈ ps, p.Ok w ∧ p.len ≤ 9223372036854775807) (hO : SlE CPrt.v w ap ps) (hE : EK A w) :
    CA Tryz.prog 26 [.pointer (some ⟨gs, 0, none⟩), .slice ap ps.length cp0, .int .i64 rm] w (Ret (fun z : Nat => .tuple #[.slice none 0 0, .iface 89 (.pointer (some ⟨z, 0, none⟩))]) [] (fun z => [.blk z (.cells #[.string { data := #[112, 97, 99, 107] }, .iface 164 (.pointer (some (A 4)))] 91 (0, 0))]) (fun _ => True) w) := by
  have hi1 : i0 < ps.length := (List.getElem?_eq_some_iff.1 hq).1
  refine enter (L := (StL gs at_ ga ba ca ha bsa fra gb bb cb hb bsb frb room gd)) (X := []) Tryz.func26 rfl Tryz.ntmps26 rfl rfl hS ?_
  repeat (first | refine c_seq ?_ | (refine c_region (id := 0) ?_; refine sq qa ?_; refine sq qa ?_; refine l_nil ?_) | (refine c_region (id := 1) ?_; refine sq qm ?_; refine se ?_; refine ecp rfl rfl (fun w hC hm hL => by exact sover_c gs at_ ga ba ca ha bsa fra gb bb cb hb bsb frb room gd w (hL.sub (by (repeat (first | exact List.nil_sublist _ | exact List.Sublist.slnil | apply List.Sublist.cons_cons | exact List.Sublist.refl _ | apply List.Sublist.cons))))) ?_; intro m' hm'; refine l_nil ?_) | (refine c_region (id := 3) ?_; refine sq qa ?_; refine l_nil ?_) | (refine c_region (id := 4) ?_; refine sq qm ?_; refine sq qls ?_; refine sq qm ?_; refine l_nil ?_) | refine n_then ?_ | refine c_block ?_ | refine c_skip ?_ | refine n_block ?_ | refine c_exit ?_ | refine n_then_exit ?_ | refine n_block_eq ?_ | refine n_block_ne rfl ?_ | refine c_ret ?_ | refine n_then_ret ?_ | refine n_block_ret ?_ | refine c_cond_t rfl ?_ | refine c_cond_f rfl ?_ | refine r_succ ?_ )
  refine add_nil 5 1 ?_
  refine c_loop (γ := Nat × Option Addr × Nat × Nat) (fun z => [(22, .int .i64 z.1), (20, .slice ap ps.length cp0), (21, .int .i64 ps.length), (8, .slice z.2.1 (packL (ps.take z.1)).length z.2.2.1), (2, .int .i64 rm)]) (fun z => z.2.2.2) (fun z => [.sl z.2.1 z.2.2.1 5 1 ((packL (ps.take z.1)).map (Value.int .u8))]) (fun z => z.1 ≤ i0 ∧ OS [] w.heap.size z.2.1 z.2.2.1 (packL (ps.take z.1)).length ∧ w.heap.size ≤ z.2.2.2) (fun z => i0 - z.1) ⟨0, none, 0, m'⟩ ⟨by simp, OS.nil _ _, by dsimp only; omega⟩ ⟨rfl, rfl, rfl, rfl, rfl, trivial⟩ rfl (by exact (by (repeat (first | exact List.nil_sublist _ | exact List.Sublist.slnil | apply List.Sublist.cons_cons | exact List.Sublist.refl _ | apply List.Sublist.cons)))) ?_
  rintro ⟨i, b, cap, mm⟩ ⟨hi, ho, hmm⟩
  dsimp only at hi ho hmm ⊢
  have hle := packL_take_len (ps := ps) i (fun p hp => by have h1 := take_all hsm i hi p hp; rw [(hps p (List.mem_of_mem_take hp)).1.l]; exact h1)
  have h8 : i < ps.length := by omega
  by_cases h9 : i < i0
  · obtain ⟨p, hp⟩ : ∃ p, ps[i]? = some p := ⟨_, List.getElem?_eq_getElem h8⟩
    have hpk := hps p (List.mem_of_getElem? hp)
    have hpl := hpk.1.l
    obtain ⟨g0, o0, rfl, hOl⟩ := hO.get h8
    have hn9 : nth (ps.map CPrt.v) i = some (.slice p.a p.len p.cap) := nth_map hp
    have hp4 := hsm i p h9 hp
    have hlb := leb2 (n := p.xs.length) (by omega)
    have hyl : (leb p.xs.length ++ p.xs).length = (leb p.xs.length).length + p.xs.length := List.length_append
    repeat (first | refine c_seq ?_ | (refine c_region (id := 5) ?_; refine sq (by first | exact dlsst | exact dlssf) ?_; refine l_nil ?_) | (refine c_region (id := 6) ?_; refine sq (by exact qis (o' := o0 + i) (ho := by omega)) ?_; refine sq (by exact ql (hr := Rd.oldn hOl hn9 (by simp))) ?_; refine sq qa ?_; refine l_nil ?_) | (refine c_region (id := 7) ?_; refine se ?_; refine ea ?_; refine l_nil ?_) | refine n_then ?_ | refine c_block ?_ | refine c_skip ?_ | refine n_block ?_ | refine c_exit ?_ | refine n_then_exit ?_ | refine n_block_eq ?_ | refine n_block_ne rfl ?_ | refine c_ret ?_ | refine n_then_ret ?_ | refine n_block_ret ?_ | refine c_cond_t rfl ?_ | refine c_cond_f rfl ?_ | refine r_succ ?_ )
    refine add_nil 5 1 ?_
    repeat (first | refine c_seq ?_ | (refine c_region (id := 8) ?_; refine sq qm ?_; refine se ?_; refine e_callX (OutL mm none 0 [] false) _ rfl rfl (by kernel_rfl) rfl (by (repeat (first | exact Sp.nil | (apply Sp.cons; focus (repeat (first | exact Rm.here | apply Rm.there)))))) (fun w hC hm hA hL hap => by have h9 := text_c mm none 0 [] false (by simp) (by simp) (OS.nil _ _) w hA p.a p.len p.cap p.xs hpl hpk.1.c hpk.1.r (by omega) (hpk.1.s.ch0 hC) (fun g o e hl hg => by have h5 := hpk.1.lt g o e (by omega); simp [feet, Chunk.foot] at hg; omega); rw [txS_ok (by omega)] at h9; exact h9) (by intro g hg; simp [feet, Chunk.foot] at hg; exact .inr (by omega)) (fun _ => rfl) ?_; intro z4 m4 hz4 hn4 hm4; obtain ⟨b4, cap4⟩ := z4; dsimp only at hz4 ⊢; refine l_nil ?_) | (refine c_region (id := 9) ?_; refine se ?_; refine ecl rfl rfl (fun w hC hm hL => by exact endok_c mm b4 cap4 (leb p.xs.length ++ p.xs) (by rw [hyl]; omega) w (hL.old (k := 2) (by (repeat (first | exact List.Mem.head _ | apply List.Mem.tail))) (by rfl)) (SlE.own hL (by (repeat (first | exact List.Mem.head _ | apply List.Mem.tail))) hz4)) ?_; intro z5 m5 hz5 hn5 hm5; obtain ⟨b5, cap5⟩ := z5; dsimp only at hz5 ⊢; refine sq qm ?_; refine sq qe ?_; refine sq qe ?_; refine sq qa ?_; refine sq qa ?_; refine l_nil ?_) | (refine c_region (id := 10) ?_; refine sq qm ?_; refine sq (by first | exact dneqt | exact dneqf) ?_; refine l_nil ?_) | (refine c_region (id := 12) ?_; refine sq qm ?_; refine sq qm ?_; refine se ?_; refine e_appE (Value.int .u8) (packL (ps.take i)) (leb p.xs.length ++ p.xs) rfl rfl rfl (by (repeat (first | exact Rm.here | apply Rm.there))) (Vw.own (bk_ob hz5.ret) (by (repeat (first | exact List.Mem.head _ | apply List.Mem.tail)))) rfl rfl ho (allOne_u8L _) (by omega) (by omega) ?_; intro b2 cap2 m2 ho2 hm2; refine sq qa ?_; refine l_nil ?_) | (refine c_region (id := 13) ?_; refine sq qadd64 ?_; refine sq qm ?_; refine l_nil ?_) | refine n_then ?_ | refine c_block ?_ | refine c_skip ?_ | refine n_block ?_ | refine c_exit ?_ | refine n_then_exit ?_ | refine n_block_eq ?_ | refine n_block_ne rfl ?_ | refine c_ret ?_ | refine n_then_ret ?_ | refine n_block_ret ?_ | refine c_cond_t rfl ?_ | refine c_cond_f rfl ?_ | refine r_succ ?_ )
    refine c_round ⟨i + 1, b2, cap2, m2⟩ ⟨by dsimp only; omega, by rw [packL_succ hp, List.length_append]; exact ho2, by dsimp only; omega⟩ (by dsimp only; omega) ⟨rfl, rfl, rfl, by rw [packL_succ hp]; simp only [List.length_append]; rfl, rfl, trivial⟩ (by rfl) (by dsimp only; rw [packL_succ hp]; exact (by (repeat (first | exact List.nil_sublist _ | exact List.Sublist.slnil | apply List.Sublist.cons_cons | exact List.Sublist.refl _ | apply List.Sublist.cons))))
  · obtain rfl : i = i0 := by omega
    obtain ⟨p, hp⟩ : ∃ p, ps[i]? = some p := ⟨_, List.getElem?_eq_getElem h8⟩
    have hpk := hps p (List.mem_of_getElem? hp)
    have hpl := hpk.1.l
    obtain ⟨g0, o0, rfl, hOl⟩ := hO.get h8
    have hn9 : nth (ps.map CPrt.v) i = some (.slice p.a p.len p.cap) := nth_map hp
    obtain rfl : q = p := Option.some.inj (hq.symm.trans hp)
    have hlg : txS [] false q.xs = ([], true) := by unfold txS; rw [if_pos (by omega)]
    repeat (first | refine c_seq ?_ | (refine c_region (id := 5) ?_; refine sq (by first | exact dlsst | exact dlssf) ?_; refine l_nil ?_) | (refine c_region (id := 6) ?_; refine sq (by exact qis (o' := o0 + i) (ho := by omega)) ?_; refine sq (by exact ql (hr := Rd.oldn hOl hn9 (by simp))) ?_; refine sq qa ?_; refine l_nil ?_) | (refine c_region (id := 7) ?_; refine se ?_; refine ea ?_; refine l_nil ?_) | refine n_then ?_ | refine c_block ?_ | refine c_skip ?_ | refine n_block ?_ | refine c_exit ?_ | refine n_then_exit ?_ | refine n_block_eq ?_ | refine n_block_ne rfl ?_ | refine c_ret ?_ | refine n_then_ret ?_ | refine n_block_ret ?_ | refine c_cond_t rfl ?_ | refine c_cond_f rfl ?_ | refine r_succ ?_ )
    refine add_nil 5 1 ?_
    repeat (first | refine c_seq ?_ | (refine c_region (id := 8) ?_; refine sq qm ?_; refine se ?_; refine e_callX (OutL mm none 0 [] false) _ rfl rfl (by kernel_rfl) rfl (by (repeat (first | exact Sp.nil | (apply Sp.cons; focus (repeat (first | exact Rm.here | apply Rm.there)))))) (fun w hC hm hA hL hap => by have h9 := text_c mm none 0 [] false (by simp) (by simp) (OS.nil _ _) w hA q.a q.len q.cap q.xs hpl hpk.1.c hpk.1.r (by omega) (hpk.1.s.ch0 hC) (fun g o e hl hg => by have h5 := hpk.1.lt g o e (by omega); simp [feet, Chunk.foot] at hg; omega); rw [hlg] at h9; exact h9) (by intro g hg; simp [feet, Chunk.foot] at hg; exact .inr (by omega)) (fun _ => rfl) ?_; intro z4 m4 hz4 hn4 hm4; obtain ⟨b4, cap4⟩ := z4; dsimp only at hz4 ⊢; refine l_nil ?_) | (refine c_region (id := 9) ?_; refine se ?_; refine ecp rfl rfl (fun w hC hm hL => by exact endlong_c mm _ w (hL.old (k := 2) (by (repeat (first | exact List.Mem.head _ | apply List.Mem.tail))) (by rfl))) ?_; intro m' hm'; refine sq qm ?_; refine sq qe ?_; refine sq qe ?_; refine sq qa ?_; refine sq qa ?_; refine l_nil ?_) | (refine c_region (id := 10) ?_; refine sq qm ?_; refine sq (by first | exact dneqt | exact dneqf) ?_; refine l_nil ?_) | (refine x_region (id := 11) none [(0, .q), (1, .n), (4, .n), (2, .e), (3, .n), (5, .n)] _ mixed (by kernel_rfl) (List.Sublist.refl _) ?_; refine xq rfl (by exact ql (hr := Rd.oldn (j := 0) (hE.g 4 (by omega)) (by rfl) (by simp))) ?_; refine xn rfl qbs ?_; refine xn rfl qa ?_; refine x_e rfl ?_; refine eb ?_; refine xk ?_; refine xn rfl q_mkI ?_; refine xn rfl qa ?_; refine x_nil ?_) | refine n_then ?_ | refine c_block ?_ | refine c_skip ?_ | refine n_block ?_ | refine c_exit ?_ | refine n_then_exit ?_ | refine n_block_eq ?_ | refine n_block_ne rfl ?_ | refine c_ret ?_ | refine n_then_ret ?_ | refine n_block_ret ?_ | refine c_cond_t rfl ?_ | refine c_cond_f rfl ?_ | refine r_succ ?_ )
    (first | apply r_ret m' | apply r_end m'); exact rfl; exact rfl; exact (.tmp rfl (.tmp rfl .nil)); exact rfl; exact (by exact (by (repeat (first | exact List.nil_sublist _ | exact List.Sublist.slnil | apply List.Sublist.cons_cons | exact List.Sublist.refl _ | apply List.Sublist.cons)))); exact (new_blk (.inr (by omega)) new_nil); exact trivial
set_option maxRecDepth 100000 in
set_option maxHeartbeats 4000000 in
theorem packed_full (gs : Nat) (at_ : Bool) (ga : Nat) (ba : Option Addr) (ca : Nat) (ha : Hd) (bsa : List Int) (fra gb : Nat) (bb : Option Addr) (cb : Nat) (hb : Hd) (bsb : List Int) (frb room gd : Nat) (ap : Option Addr) (cp0 : Nat) (ps : List CPrt) (rm : Int) (A : Nat → Addr) (hrm : rm < (packL ps).length) (hps4 : ∀ p ∈ ps, p.len ≤ 4096) (hpn : ps.length ≤ 1000) (w : World) (hS : Has (StL gs at_ ga ba ca ha bsa fra gb bb cb hb bsb frb room gd) w) (hps : ∀ p ∈ ps, p.Ok w ∧ p.len ≤ 9223372036854775807) (hO : SlE CPrt.v w ap ps) (hE : EK A w) :
    CA Tryz.prog 26 [.pointer (some ⟨gs, 0, none⟩), .slice ap ps.length cp0, .int .i64 rm] w (Ret (fun z : Nat => .tuple #[.slice none 0 0, .iface 89 (.pointer (some ⟨z, 0, none⟩))]) [] (fun z => [.blk z (.cells #[.string { data := #[112, 97, 99, 107] }, .iface 164 (.pointer (some (A 1)))] 91 (0, 0))]) (fun _ => True) w) := by
  refine enter (L := (StL gs at_ ga ba ca ha bsa fra gb bb cb hb bsb frb room gd)) (X := []) Tryz.func26 rfl Tryz.ntmps26 rfl rfl hS ?_
  repeat (first | refine c_seq ?_ | (refine c_region (id := 0) ?_; refine sq qa ?_; refine sq qa ?_; refine l_nil ?_) | (refine c_region (id := 1) ?_; refine sq qm ?_; refine se ?_; refine ecp rfl rfl (fun w hC hm hL => by exact sover_c gs at_ ga ba ca ha bsa fra gb bb cb hb bsb frb room gd w (hL.sub (by (repeat (first | exact List.nil_sublist _ | exact List.Sublist.slnil | apply List.Sublist.cons_cons | exact List.Sublist.refl _ | apply List.Sublist.cons))))) ?_; intro m' hm'; refine l_nil ?_) | (refine c_region (id := 3) ?_; refine sq qa ?_; refine l_nil ?_) | (refine c_region (id := 4) ?_; refine sq qm ?_; refine sq qls ?_; refine sq qm ?_; refine l_nil ?_) | refine n_then ?_ | refine c_block ?_ | refine c_skip ?_ | refine n_block ?_ | refine c_exit ?_ | refine n_then_exit ?_ | refine n_block_eq ?_ | refine n_block_ne rfl ?_ | refine c_ret ?_ | refine n_then_ret ?_ | refine n_block_ret ?_ | refine c_cond_t rfl ?_ | refine c_cond_f rfl ?_ | refine r_succ ?_ )
  refine add_nil 5 1 ?_
  refine c_loop (γ := Nat × Option Addr × Nat × Nat) (fun z => [(22, .int .i64 z.1), (20, .slice ap ps.length cp0), (21, .int .i64 ps.length), (8, .slice z.2.1 (packL (ps.take z.1)).length z.2.2.1), (2, .int .i64 rm)]) (fun z => z.2.2.2) (fun z => [.sl z.2.1 z.2.2.1 5 1 ((packL (ps.take z.1)).map (Value.int .u8))]) (fun z => z.1 ≤ ps.length ∧ OS [] w.heap.size z.2.1 z.2.2.1 (packL (ps.take z.1)).length ∧ w.heap.size ≤ z.2.2.2) (fun z => ps.length - z.1) ⟨0, none, 0, m'⟩ ⟨by simp, OS.nil _ _, by dsimp only; omega⟩ ⟨rfl, rfl, rfl, rfl, rfl, trivial⟩ rfl (by exact (by (repeat (first | exact List.nil_sublist _ | exact List.Sublist.slnil | apply List.Sublist.cons_cons | exact List.Sublist.refl _ | apply List.Sublist.cons)))) ?_
  rintro ⟨i, b, cap, mm⟩ ⟨hi, ho, hmm⟩
  dsimp only at hi ho hmm ⊢
  have hle := packL_take_len (ps := ps) i (fun p hp => by have h1 := hps4 p (List.mem_of_mem_take hp); rw [(hps p (List.mem_of_mem_take hp)).1.l]; exact h1)
  by_cases h8 : i < ps.length
  · obtain ⟨p, hp⟩ : ∃ p, ps[i]? = some p := ⟨_, List.getElem?_eq_getElem h8⟩
    have hpk := hps p (List.mem_of_getElem? hp)
    have hpl := hpk.1.l
    obtain ⟨g0, o0, rfl, hOl⟩ := hO.get h8
    have hn9 : nth (ps.map CPrt.v) i = some (.slice p.a p.len p.cap) := nth_map hp
    have hp4 := hps4 p (List.mem_of_getElem? hp)
    have hlb := leb2 (n := p.xs.length) (by omega)
    have hyl : (leb p.xs.length ++ p.xs).length = (leb p.xs.length).length + p.xs.length := List.length_append
    repeat (first | refine c_seq ?_ | (refine c_region (id := 5) ?_; refine sq (by first | exact dlsst | exact dlssf) ?_; refine l_nil ?_) | (refine c_region (id := 6) ?_; refine sq (by exact qis (o' := o0 + i) (ho := by omega)) ?_; refine sq (by exact ql (hr := Rd.oldn hOl hn9 (by simp))) ?_; refine sq qa ?_; refine l_nil ?_) | (refine c_region (id := 7) ?_; refine se ?_; refine ea ?_; refine l_nil ?_) | refine n_then ?_ | refine c_block ?_ | refine c_skip ?_ | refine n_block ?_ | refine c_exit ?_ | refine n_then_exit ?_ | refine n_block_eq ?_ | refine n_block_ne rfl ?_ | refine c_ret ?_ | refine n_then_ret ?_ | refine n_block_ret ?_ | refine c_cond_t rfl ?_ | refine c_cond_f rfl ?_ | refine r_succ ?_ )
    refine add_nil 5 1 ?_
    repeat (first | refine c_seq ?_ | (refine c_region (id := 8) ?_; refine sq qm ?_; refine se ?_; refine e_callX (OutL mm none 0 [] false) _ rfl rfl (by kernel_rfl) rfl (by (repeat (first | exact Sp.nil | (apply Sp.cons; focus (repeat (first | exact Rm.here | apply Rm.there)))))) (fun w hC hm hA hL hap => by have h9 := text_c mm none 0 [] false (by simp) (by simp) (OS.nil _ _) w hA p.a p.len p.cap p.xs hpl hpk.1.c hpk.1.r (by omega) (hpk.1.s.ch0 hC) (fun g o e hl hg => by have h5 := hpk.1.lt g o e (by omega); simp [feet, Chunk.foot] at hg; omega); rw [txS_ok (by omega)] at h9; exact h9) (by intro g hg; simp [feet, Chunk.foot] at hg; exact .inr (by omega)) (fun _ => rfl) ?_; intro z4 m4 hz4 hn4 hm4; obtain ⟨b4, cap4⟩ := z4; dsimp only at hz4 ⊢; refine l_nil ?_) | (refine c_region (id := 9) ?_; refine se ?_; refine ecl rfl rfl (fun w hC hm hL => by exact endok_c mm b4 cap4 (leb p.xs.length ++ p.xs) (by rw [hyl]; omega) w (hL.old (k := 2) (by (repeat (first | exact List.Mem.head _ | apply List.Mem.tail))) (by rfl)) (SlE.own hL (by (repeat (first | exact List.Mem.head _ | apply List.Mem.tail))) hz4)) ?_; intro z5 m5 hz5 hn5 hm5; obtain ⟨b5, cap5⟩ := z5; dsimp only at hz5 ⊢; refine sq qm ?_; refine sq qe ?_; refine sq qe ?_; refine sq qa ?_; refine sq qa ?_; refine l_nil ?_) | (refine c_region (id := 10) ?_; refine sq qm ?_; refine sq (by first | exact dneqt | exact dneqf) ?_; refine l_nil ?_) | (refine c_region (id := 12) ?_; refine sq qm ?_; refine sq qm ?_; refine se ?_; refine e_appE (Value.int .u8) (packL (ps.take i)) (leb p.xs.length ++ p.xs) rfl rfl rfl (by (repeat (first | exact Rm.here | apply Rm.there))) (Vw.own (bk_ob hz5.ret) (by (repeat (first | exact List.Mem.head _ | apply List.Mem.tail)))) rfl rfl ho (allOne_u8L _) (by omega) (by omega) ?_; intro b2 cap2 m2 ho2 hm2; refine sq qa ?_; refine l_nil ?_) | (refine c_region (id := 13) ?_; refine sq qadd64 ?_; refine sq qm ?_; refine l_nil ?_) | refine n_then ?_ | refine c_block ?_ | refine c_skip ?_ | refine n_block ?_ | refine c_exit ?_ | refine n_then_exit ?_ | refine n_block_eq ?_ | refine n_block_ne rfl ?_ | refine c_ret ?_ | refine n_then_ret ?_ | refine n_block_ret ?_ | refine c_cond_t rfl ?_ | refine c_cond_f rfl ?_ | refine r_succ ?_ )
    refine c_round ⟨i + 1, b2, cap2, m2⟩ ⟨by dsimp only; omega, by rw [packL_succ hp, List.length_append]; exact ho2, by dsimp only; omega⟩ (by dsimp only; omega) ⟨rfl, rfl, rfl, by rw [packL_succ hp]; simp only [List.length_append]; rfl, rfl, trivial⟩ (by rfl) (by dsimp only; rw [packL_succ hp]; exact (by (repeat (first | exact List.nil_sublist _ | exact List.Sublist.slnil | apply List.Sublist.cons_cons | exact List.Sublist.refl _ | apply List.Sublist.cons))))
  · obtain rfl : i = ps.length := by omega
    rw [List.take_length] at hle ho ⊢
    repeat (first | refine c_seq ?_ | (refine c_region (id := 5) ?_; refine sq (by first | exact dlsst | exact dlssf) ?_; refine l_nil ?_) | (refine c_region (id := 14) ?_; refine sq qm ?_; refine sq qls ?_; refine sq qm ?_; refine sq (by first | exact dgtrt | exact dgtrf) ?_; refine l_nil ?_) | (refine x_region (id := 15) none [(0, .q), (1, .n), (4, .n), (2, .e), (3, .n), (5, .n)] _ mixed (by kernel_rfl) (List.Sublist.refl _) ?_; refine xq rfl (by exact ql (hr := Rd.oldn (j := 0) (hE.g 1 (by omega)) (by rfl) (by simp))) ?_; refine xn rfl qbs ?_; refine xn rfl qa ?_; refine x_e rfl ?_; refine eb ?_; refine xk ?_; refine xn rfl q_mkI ?_; refine xn rfl qa ?_; refine x_nil ?_) | refine n_then ?_ | refine c_block ?_ | refine c_skip ?_ | refine n_block ?_ | refine c_exit ?_ | refine n_then_exit ?_ | refine n_block_eq ?_ | refine n_block_ne rfl ?_ | refine c_ret ?_ | refine n_then_ret ?_ | refine n_block_ret ?_ | refine c_cond_t rfl ?_ | refine c_cond_f rfl ?_ | refine r_succ ?_ )
    (first | apply r_ret mm | apply r_end mm); exact rfl; exact rfl; exact (.tmp rfl (.tmp rfl .nil)); exact rfl; exact (by exact (by (repeat (first | exact List.nil_sublist _ | exact List.Sublist.slnil | apply List.Sublist.cons_cons | exact List.Sublist.refl _ | apply List.Sublist.cons)))); exact (new_blk (.inr (by omega)) new_nil); exact trivial
set_option maxRecDepth 100000 in
set_option maxHeartbeats 4000000 in
theorem add_bad {w : World} (gs : Nat) (sl : Value) (rm : Int) {L : List Chunk} (hL0 : Has L w) (A : Nat → Addr) (hE : EK A w) (e : Nat) (code : Int) (htold : ∀ fb w, EK A w → Old w fb 0 [.string { data := #[112, 97, 99, 107] }, .iface 164 (.pointer (some (A e)))] → CA Tryz.prog 23 [.iface 89 (.pointer (some ⟨fb, 0, none⟩))] w (RV (.int .i64 code) w)) (hroom : ∀ w, Has L w → CA Tryz.prog 16 [.pointer (some ⟨gs, 0, none⟩)] w (RV (.int .i64 rm) w)) (hpk : ∀ w', Ch [] w w' → Has L w' → CA Tryz.prog 26 [.pointer (some ⟨gs, 0, none⟩), sl, .int .i64 rm] w' (Ret (fun z : Nat => .tuple #[.slice none 0 0, .iface 89 (.pointer (some ⟨z, 0, none⟩))]) [] (fun z => [.blk z (.cells #[.string { data := #[112, 97, 99, 107] }, .iface 164 (.pointer (some (A e)))] 91 (0, 0))]) (fun _ => True) w')) :
    CA Tryz.prog 10 [.pointer (some ⟨gs, 0, none⟩), sl] w (RV (.int .i64 code) w) := by
  refine enter (L := L) (X := []) Tryz.func10 rfl Tryz.ntmps10 rfl rfl hL0 ?_
  repeat (first | refine c_seq ?_ | (refine c_region (id := 0) ?_; refine sq qa ?_; refine l_nil ?_) | (refine c_region (id := 1) ?_; refine sq qm ?_; refine sq qm ?_; refine sq qm ?_; refine se ?_; refine ecp rfl rfl (fun w hC hm hL => by exact hroom w (hL.sub (by (repeat (first | exact List.nil_sublist _ | exact List.Sublist.slnil | apply List.Sublist.cons_cons | exact List.Sublist.refl _ | apply List.Sublist.cons))))) ?_; intro m' hm'; refine se ?_; refine ecl rfl rfl (fun w hC hm hL => by exact hpk w hC (hL.sub (by (repeat (first | exact List.nil_sublist _ | exact List.Sublist.slnil | apply List.Sublist.cons_cons | exact List.Sublist.refl _ | apply List.Sublist.cons))))) ?_; intro z5 m5 hz5 hn5 hm5; refine sq qm ?_; refine sq qe ?_; refine sq qe ?_; refine sq qa ?_; refine sq qa ?_; refine l_nil ?_) | (refine c_region (id := 2) ?_; refine sq qm ?_; refine sq q_neq_in ?_; refine l_nil ?_) | (refine c_region (id := 3) ?_; refine sq qm ?_; refine se ?_; refine ecp rfl rfl (fun w hC hm hL => by exact htold z5 w (hE.ch hC) (hL.old (k := 2) (by (repeat (first | exact List.Mem.head _ | apply List.Mem.tail))) (by rfl))) ?_; intro m' hm'; refine sq qa ?_; refine l_nil ?_) | refine n_then ?_ | refine c_block ?_ | refine c_skip ?_ | refine n_block ?_ | refine c_exit ?_ | refine n_then_exit ?_ | refine n_block_eq ?_ | refine n_block_ne rfl ?_ | refine c_ret ?_ | refine n_then_ret ?_ | refine n_block_ret ?_ | refine c_cond_t rfl ?_ | refine c_cond_f rfl ?_ | refine r_succ ?_ )
  (first | apply r_ret () | apply r_end ()); exact rfl; exact rfl; exact (.tmp rfl .nil); exact rfl; exact (List.nil_sublist _); exact new_nil; exact trivial
set_option maxRecDepth 100000 in
set_option maxHeartbeats 4000000 in
theorem compact_bad {w : World} (gs go gl : Nat) (sl : Value) (rm0 rm : Int) (bs : List Int) (hsum : rm0 + bs.length = rm) (hrm : 0 ≤ rm0 ∧ rm ≤ 100000000) {L : List Chunk} (hL0 : Has L w) (A : Nat → Addr) (hE : EK A w) (e : Nat) (code : Int) (htold : ∀ fb w, EK A w → Old w fb 0 [.string { data := #[112, 97, 99, 107] }, .iface 164 (.pointer (some (A e)))] → CA Tryz.prog 23 [.iface 89 (.pointer (some ⟨fb, 0, none⟩))] w (RV (.int .i64 code) w)) (hoth : ∀ w, Has L w → CA Tryz.prog 31 [.pointer (some ⟨gs, 0, none⟩)] w (RV (.pointer (some ⟨go, 0, none⟩)) w)) (hlog : ∀ w, Has L w → CA Tryz.prog 27 [.pointer (some ⟨gs, 0, none⟩)] w (RV (.pointer (some ⟨gl, 0, none⟩)) w)) (hroom : ∀ w, Has L w → CA Tryz.prog 16 [.pointer (some ⟨gs, 0, none⟩)] w (RV (.int .i64 rm0) w)) (hbytes : ∀ w, Has L w → CA Tryz.prog 32 [.pointer (some ⟨gl, 0, none⟩)] w (RLe (Value.int .u8) 5 (fun zs => zs = bs) w)) (hpk : ∀ w', Ch [] w w' → Has L w' → CA Tryz.prog 26 [.pointer (some ⟨gs, 0, none⟩), sl, .int .i64 rm] w' (Ret (fun z : Nat => .tuple #[.slice none 0 0, .iface 89 (.pointer (some ⟨z, 0, none⟩))]) [] (fun z => [.blk z (.cells #[.string { data := #[112, 97, 99, 107] }, .iface 164 (.pointer (some (A e)))] 91 (0, 0))]) (fun _ => True) w')) :
    CA Tryz.prog 12 [.pointer (some ⟨gs, 0, none⟩), sl] w (RV (.int .i64 code) w) := by
  refine enter (L := L) (X := []) Tryz.func12 rfl Tryz.ntmps12 rfl rfl hL0 ?_
  repeat (first | refine c_seq ?_ | (refine c_region (id := 0) ?_; refine sq qa ?_; refine l_nil ?_) | (refine c_region (id := 1) ?_; refine sq qm ?_; refine se ?_; refine ecp rfl rfl (fun w hC hm hL => by exact hoth w (hL.sub (by (repeat (first | exact List.nil_sublist _ | exact List.Sublist.slnil | apply List.Sublist.cons_cons | exact List.Sublist.refl _ | apply List.Sublist.cons))))) ?_; intro m' hm'; refine sq qa ?_; refine l_nil ?_) | (refine c_region (id := 2) ?_; refine sq qm ?_; refine sq qm ?_; refine sq qm ?_; refine se ?_; refine ecp rfl rfl (fun w hC hm hL => by exact hroom w (hL.sub (by (repeat (first | exact List.nil_sublist _ | exact List.Sublist.slnil | apply List.Sublist.cons_cons | exact List.Sublist.refl _ | apply List.Sublist.cons))))) ?_; intro m' hm'; refine sq qm ?_; refine se ?_; refine ecp rfl rfl (fun w hC hm hL => by exact hlog w (hL.sub (by (repeat (first | exact List.nil_sublist _ | exact List.Sublist.slnil | apply List.Sublist.cons_cons | exact List.Sublist.refl _ | apply List.Sublist.cons))))) ?_; intro m' hm'; refine se ?_; refine e_callL (enc := (Value.int .u8)) (e := 5) rfl rfl (by kernel_rfl) rfl (fun w hC hm hL => by exact hbytes w (hL.sub (by (repeat (first | exact List.nil_sublist _ | exact List.Sublist.slnil | apply List.Sublist.cons_cons | exact List.Sublist.refl _ | apply List.Sublist.cons))))) ?_; intro b6 cap6 zs6 m6 hz6 ho6 hm6; rw [hz6]; refine sq qls ?_; refine sq (by exact Qt.cast (v' := .int .i64 rm) (congrArg (Value.int .i64) hsum) (q_add64 rfl rfl ⟨by omega, by omega⟩ rfl)) ?_; refine se ?_; refine ecl rfl rfl (fun w hC hm hL => by exact hpk w hC (hL.sub (by (repeat (first | exact List.nil_sublist _ | exact List.Sublist.slnil | apply List.Sublist.cons_cons | exact List.Sublist.refl _ | apply List.Sublist.cons))))) ?_; intro z5 m5 hz5 hn5 hm5; refine sq qm ?_; refine sq qe ?_; refine sq qe ?_; refine sq qa ?_; refine sq qa ?_; refine l_nil ?_) | (refine c_region (id := 3) ?_; refine sq qm ?_; refine sq q_neq_in ?_; refine l_nil ?_) | (refine c_region (id := 4) ?_; refine sq qm ?_; refine se ?_; refine ecp rfl rfl (fun w hC hm hL => by exact htold z5 w (hE.ch hC) (hL.old (k := 2) (by (repeat (first | exact List.Mem.head _ | apply List.Mem.tail))) (by rfl))) ?_; intro m' hm'; refine sq qa ?_; refine l_nil ?_) | refine n_then ?_ | refine c_block ?_ | refine c_skip ?_ | refine n_block ?_ | refine c_exit ?_ | refine n_then_exit ?_ | refine n_block_eq ?_ | refine n_block_ne rfl ?_ | refine c_ret ?_ | refine n_then_ret ?_ | refine n_block_ret ?_ | refine c_cond_t rfl ?_ | refine c_cond_f rfl ?_ | refine r_succ ?_ )
  (first | apply r_ret () | apply r_end ()); exact rfl; exact rfl; exact (.tmp rfl .nil); exact rfl; exact (List.nil_sublist _); exact new_nil; exact trivial
section
variable {P : Program} {T : List (Nat × Value)} {X : List Nat} {w0 : World} {L : List Chunk} {x y z : Operand} {dst : Option Tmp} {ty : TypeId} {pos : String} {af : Array Edge} {gu : Option (Nat × Bool)}
theorem q_max3 {k1 : IntKind} {a b c : Int} {ats : Array TypeId} (hx : ev T x = some (.int k1 a)) (hy : ev T y = some (.int k1 b)) (hz : ev T z = some (.int k1 c)) : Qt P X w0 ⟨dst, .call { callee := .builtin .max, args := #[x, y, z], argTypes := ats }, ty, pos, af, gu⟩ T L (.int k1 (if (if a < b then b else a) < c then c else (if a < b then b else a))) :=
  q_call_builtin (xs := [x, y, z]) (vs := [.int k1 a, .int k1 b, .int k1 c]) (by simp [evs, hx, hy, hz]) fun w => by simp [builtin, Builtin.max_, Builtin.max2]
end
end Go.Proofs.YtgmghkakiocmjaaGreatDoor
namespace Go.Proofs.YtgmghkakiocmjaaGreatDoor
open Go Go.RowKit
set_option linter.unusedVariables false
set_option linter.unusedSimpArgs false
def NP (g : Int) (n : Nat) (F : Nat → Int) : Prop := ∀ q, F q = if 8 - n ≤ q ∧ q < 8 then gB g q else 0
theorem NP.zero (g : Int) : NP g 0 (fun _ => 0) := fun q => by rw [if_neg (by omega)]
theorem NP.step {g : Int} {i : Nat} {F : Nat → Int} (h : NP g i F) (hi : i < 8) {v : Int} (hv : v = gB g (7 - i)) : NP g (i + 1) (updF F (7 - i) v) := fun q => by
  unfold updF
  by_cases e : q = 7 - i
  · subst e
    rw [if_pos rfl, if_pos (by omega), hv]
  · rw [if_neg e, h q]
    by_cases c : 8 - i ≤ q ∧ q < 8
    · rw [if_pos c, if_pos (by omega)]
    · rw [if_neg c, if_neg (by omega)]
theorem NP.all {g : Int} {F : Nat → Int} (h : NP g 8 F) : F = ntA g := by
  funext q
  rw [h q]
  unfold ntA
  by_cases c : q < 8
  · rw [if_pos (by omega), if_pos c]
  · rw [if_neg (by omega), if_neg c]
theorem byS_noteE (F : Nat → Int) : byS F 0 16 = noteE F := by
  show [Value.int .u8 (F (0 + 0)), Value.int .u8 (F (0 + 1)), Value.int .u8 (F (0 + 2)), Value.int .u8 (F (0 + 3)), Value.int .u8 (F (0 + 4)), Value.int .u8 (F (0 + 5)), Value.int .u8 (F (0 + 6)), Value.int .u8 (F (0 + 7)), Value.int .u8 (F (0 + 8)), Value.int .u8 (F (0 + 9)), Value.int .u8 (F (0 + 10)), Value.int .u8 (F (0 + 11)), Value.int .u8 (F (0 + 12)), Value.int .u8 (F (0 + 13)), Value.int .u8 (F (0 + 14)), Value.int .u8 (F (0 + 15))] = [Value.int .u8 (F 0), Value.int .u8 (F 1), Value.int .u8 (F 2), Value.int .u8 (F 3), Value.int .u8 (F 4), Value.int .u8 (F 5), Value.int .u8 (F 6), Value.int .u8 (F 7), Value.int .u8 (F 8), Value.int .u8 (F 9), Value.int .u8 (F 10), Value.int .u8 (F 11), Value.int .u8 (F 12), Value.int .u8 (F 13), Value.int .u8 (F 14), Value.int .u8 (F 15)]
  rw [Nat.zero_add 0, Nat.zero_add 1, Nat.zero_add 2, Nat.zero_add 3, Nat.zero_add 4, Nat.zero_add 5, Nat.zero_add 6, Nat.zero_add 7, Nat.zero_add 8, Nat.zero_add 9, Nat.zero_add 10, Nat.zero_add 11, Nat.zero_add 12, Nat.zero_add 13, Nat.zero_add 14, Nat.zero_add 15]
set_option maxRecDepth 100000 in
set_option maxHeartbeats 4000000 in
theorem noteof_c (g : Int) (hg : 0 ≤ g ∧ g ≤ 18446744073709551615) (w : World) : CA Tryz.prog 34 [.int .u64 g] w (RV (.agg (noteE (ntA g)).toArray) w) := by
  obtain ⟨m0, hm0⟩ : ∃ m, m = w.heap.size := ⟨_, rfl⟩
  obtain ⟨m1, hm1⟩ : ∃ m, m = m0 + 1 := ⟨_, rfl⟩
  refine enter (L := []) (X := []) Tryz.func34 rfl Tryz.ntmps34 rfl rfl (Has.nil _) ?_
  rw [← hm0]
  repeat (first | refine c_seq ?_ | (refine c_region (id := 0) ?_; refine se ?_; refine ea ?_; refine l_nil ?_) | (refine c_region (id := 1) ?_; refine se ?_; refine ea ?_; refine l_nil ?_) | (refine c_region (id := 2) ?_; refine sq qm ?_; refine l_nil ?_) | refine n_then ?_ | refine c_block ?_ | refine c_skip ?_ | refine n_block ?_ | refine c_exit ?_ | refine n_then_exit ?_ | refine n_block_eq ?_ | refine n_block_ne rfl ?_ | refine c_ret ?_ | refine n_then_ret ?_ | refine n_block_ret ?_ | refine c_cond_t rfl ?_ | refine c_cond_f rfl ?_ | refine r_succ ?_ )
  rw [← hm1]
  refine chg (L' := [.blk m1 (.cells (byS (fun _ => 0) 0 16).toArray 69 (0, 0)), .blk m0 (.cells (List.replicate 16 (Value.int .u8 0)).toArray 69 (0, 0))]) (by rfl) ?_
  refine c_loop (γ := Nat × (Nat → Int)) (fun z => [(5, .int .i64 z.1), (3, .pointer (some ⟨m1, 0, none⟩)), (2, .pointer (some ⟨m0, 0, none⟩)), (0, .int .u64 g)]) (fun _ => m1 + 1) (fun z => [.blk m1 (.cells (byS z.2 0 16).toArray 69 (0, 0)), .blk m0 (.cells (List.replicate 16 (Value.int .u8 0)).toArray 69 (0, 0))]) (fun z => z.1 ≤ 8 ∧ NP g z.1 z.2) (fun z => 8 - z.1) ⟨0, fun _ => 0⟩ ⟨by simp, NP.zero g⟩ ⟨rfl, rfl, rfl, rfl, trivial⟩ rfl (List.Sublist.refl _) ?_
  rintro ⟨i, F⟩ ⟨hi, hF⟩
  dsimp only at hi hF ⊢
  by_cases h8 : i < 8
  · obtain ⟨jj, hjj⟩ : ∃ jj, jj = 7 - i := ⟨_, rfl⟩
    have hF2 := hF.step h8 (v := g / 2 ^ (8 * i) % 256) (by unfold gB; rw [show 56 - 8 * (7 - i) = 8 * i by omega])
    rw [← hjj] at hF2
    repeat (first | refine c_seq ?_ | (refine c_region (id := 3) ?_; refine sq (by first | exact dlsst | exact dlssf) ?_; refine l_nil ?_) | (refine c_region (id := 4) ?_; refine sq qm ?_; refine sq qa ?_; refine l_nil ?_) | (refine c_region (id := 5) ?_; refine sq qm ?_; refine sq (by exact Qt.cast (v' := .int .i64 ((jj : Nat) : Int)) (congrArg (Value.int .i64) (by omega)) (q_sub64 rfl rfl ⟨by omega, by omega⟩ rfl)) ?_; refine sq qm ?_; refine sq qm ?_; refine sq (by exact Qt.cast (v' := .int .i64 (((8 * i) : Nat) : Int)) (congrArg (Value.int .i64) (by omega)) (q_mul64 rfl rfl ⟨by omega, by omega⟩ rfl)) ?_; refine sq (by exact Qt.cast (v' := .int .u64 (g / 2 ^ (8 * i))) (congrArg (Value.int .u64) (by rw [Int.toNat_natCast])) (q_shr rfl rfl (by omega) (by show _ ≤ 64; omega))) ?_; refine sq qc8 ?_; refine sq (by exact qia (o' := jj) (ho := by omega)) ?_; refine se ?_; refine es2 ?_ (ho := rfl) (hp := by rw [byS_upd F 16 jj (by omega)]; (repeat (first | exact Pl.here | apply Pl.there))) (hoff := by rw [byS_sz]; omega) (hg := .inr (by omega)); refine l_nil ?_) | (refine c_region (id := 6) ?_; refine sq qadd64 ?_; refine sq qm ?_; refine l_nil ?_) | refine n_then ?_ | refine c_block ?_ | refine c_skip ?_ | refine n_block ?_ | refine c_exit ?_ | refine n_then_exit ?_ | refine n_block_eq ?_ | refine n_block_ne rfl ?_ | refine c_ret ?_ | refine n_then_ret ?_ | refine n_block_ret ?_ | refine c_cond_t rfl ?_ | refine c_cond_f rfl ?_ | refine r_succ ?_ )
    refine c_round ⟨i + 1, updF F jj (g / 2 ^ (8 * i) % 256)⟩ ⟨by dsimp only; omega, hF2⟩ (by dsimp only; omega) ⟨rfl, rfl, rfl, rfl, trivial⟩ rfl (by exact (by (repeat (first | exact List.nil_sublist _ | exact List.Sublist.slnil | apply List.Sublist.cons_cons | exact List.Sublist.refl _ | apply List.Sublist.cons))))
  · obtain rfl : i = 8 := by omega
    have hFa := hF.all
    rw [hFa, byS_noteE]
    repeat (first | refine c_seq ?_ | (refine c_region (id := 3) ?_; refine sq (by first | exact dlsst | exact dlssf) ?_; refine l_nil ?_) | (refine c_region (id := 7) ?_; refine sq (by exact qlb (hl := by rfl)) ?_; refine se ?_; refine esa ?_ (hk := by rfl) (ho := by rfl) (hoff := by rfl); refine l_nil ?_) | refine n_then ?_ | refine c_block ?_ | refine c_skip ?_ | refine n_block ?_ | refine c_exit ?_ | refine n_then_exit ?_ | refine n_block_eq ?_ | refine n_block_ne rfl ?_ | refine c_ret ?_ | refine n_then_ret ?_ | refine n_block_ret ?_ | refine c_cond_t rfl ?_ | refine c_cond_f rfl ?_ | refine r_succ ?_ )
    (first | apply r_ret () | apply r_end ()); exact rfl; exact rfl; exact (.row rfl (by (repeat (first | exact List.Mem.head _ | apply List.Mem.tail))) (by rfl) .nil); exact rfl; exact (List.nil_sublist _); exact new_nil; exact trivial
/-! ### the reference -/
section
variable {P : Program} {T : List (Nat × Value)} {X : List Nat} {w0 : World} {L : List Chunk} {x y : Operand} {dst : Option Tmp} {ty t ty2 : TypeId} {pos : String} {af : Array Edge} {gu : Option (Nat × Bool)}
end
theorem allOne_v (l : List CPrt) : allOne (l.map CPrt.v) = true := by
  induction l with
  | nil => rfl
  | cons p l ih => simpa [allOne, CPrt.v, Value.oneCell'] using ih
set_option maxRecDepth 100000 in
set_option maxHeartbeats 4000000 in
theorem rboth_c (ps qs : List CPrt) (ap aq : Option Addr) (cp cq : Nat) (hp : ps.length ≤ 100000) (hq : qs.length ≤ 100000) (w : World) (hO : SlE CPrt.v w ap ps) (hQ : SlE CPrt.v w aq qs) :
    CA Tryz.prog 11 [.slice ap ps.length cp, .slice aq qs.length cq] w (RLe CPrt.v 46 (fun zs => zs = [] ++ ps ++ qs) w) := by
  refine enter (L := []) (X := []) Tryz.func11 rfl Tryz.ntmps11 rfl rfl (Has.nil _) ?_
  repeat (first | refine c_seq ?_ | (refine c_region (id := 0) ?_; refine sq qa ?_; refine l_nil ?_) | (refine c_region (id := 1) ?_; refine sq qa ?_; refine l_nil ?_) | refine n_then ?_ | refine c_block ?_ | refine c_skip ?_ | refine n_block ?_ | refine c_exit ?_ | refine n_then_exit ?_ | refine n_block_eq ?_ | refine n_block_ne rfl ?_ | refine c_ret ?_ | refine n_then_ret ?_ | refine n_block_ret ?_ | refine c_cond_t rfl ?_ | refine c_cond_f rfl ?_ | refine r_succ ?_ )
  refine add_nil 46 1 ?_
  repeat (first | refine c_seq ?_ | (refine c_region (id := 2) ?_; refine sq qm ?_; refine sq qm ?_; refine se ?_; refine e_appE CPrt.v ([] : List CPrt) ps rfl rfl rfl (by (repeat (first | exact Rm.here | apply Rm.there))) hO.vw rfl rfl (OS.nil _ _) (allOne_v _) (by omega) (by omega) ?_; intro b2 cap2 m2 ho2 hm2; refine sq qa ?_; refine l_nil ?_) | (refine c_region (id := 3) ?_; refine sq qm ?_; refine sq qm ?_; refine se ?_; refine e_appE CPrt.v ([] ++ ps) qs rfl rfl rfl (by (repeat (first | exact Rm.here | apply Rm.there))) hQ.vw (by simp) rfl ho2 (allOne_v _) (by simp; omega) (by simp; omega) ?_; intro b3 cap3 m3 ho3 hm3; refine sq qa ?_; refine l_nil ?_) | refine n_then ?_ | refine c_block ?_ | refine c_skip ?_ | refine n_block ?_ | refine c_exit ?_ | refine n_then_exit ?_ | refine n_block_eq ?_ | refine n_block_ne rfl ?_ | refine c_ret ?_ | refine n_then_ret ?_ | refine n_block_ret ?_ | refine c_cond_t rfl ?_ | refine c_cond_f rfl ?_ | refine r_succ ?_ )
  (first | apply r_ret (b3, cap3, [] ++ ps ++ qs) | apply r_end (b3, cap3, [] ++ ps ++ qs)); exact rfl; exact rfl; exact (.tmp rfl .nil); exact (by simp; rfl); exact (by exact (by (repeat (first | exact List.nil_sublist _ | exact List.Sublist.slnil | apply List.Sublist.cons_cons | exact List.Sublist.refl _ | apply List.Sublist.cons)))); exact (new_sl ho3.newc new_nil); exact ⟨by have h9 := ho3.ret; simpa using h9, rfl⟩
/-! ### operations -/
structure OpS where
  kd : Int
  a : Option Addr
  cap : Nat
  ls : List CPrt
  fu : Int
def OpS.enc (p : OpS) : List Value := [.int .u8 p.kd, .slice p.a p.ls.length p.cap, .int .i64 p.fu]
theorem OpS.enc_len (p : OpS) : p.enc.length = 3 := rfl
structure OpS.Ok (w : World) (p : OpS) : Prop where
  s : SlE CPrt.v w p.a p.ls
  o : ∀ q ∈ p.ls, q.Ok w ∧ q.len ≤ 9223372036854775807
  c : p.ls.length ≤ p.cap
  m : p.ls.length ≤ 9223372036854775807
  k : 0 ≤ p.kd ∧ p.kd ≤ 255
  fb : -9223372036854775808 ≤ p.fu ∧ p.fu ≤ 9223372036854775807
theorem CPrt.Ok.ch0 {w w' : World} {p : CPrt} (h : p.Ok w) (hC : Ch [] w w') : p.Ok w' := ⟨h.s.ch0 hC, h.l, h.c, h.r⟩
theorem OpS.Ok.ch0 {w w' : World} {p : OpS} (h : p.Ok w) (hC : Ch [] w w') : p.Ok w' := ⟨h.s.ch0 hC, fun q hq => ⟨(h.o q hq).1.ch0 hC, (h.o q hq).2⟩, h.c, h.m, h.k, h.fb⟩
set_option maxRecDepth 100000 in
set_option maxHeartbeats 4000000 in
theorem sop_reads {w : World} {c : List Value} (h : Reads Tryz.prog w 34 c) : ∃ p : OpS, c = p.enc ∧ p.Ok w := by
  obtain ⟨hl, hf⟩ := h.struct Tryz.underlying34
  have hc : Tryz.prog.cellsOf 34 = 3 := by kernel_rfl
  have h8 : Tryz.prog.cellsOf 5 = 1 := by kernel_rfl
  have hi : Tryz.prog.cellsOf 3 = 1 := by kernel_rfl
  have hs : Tryz.prog.cellsOf 31 = 1 := by kernel_rfl
  have hs1 : Tryz.prog.cellsOf 46 = 1 := by kernel_rfl
  rw [hc] at hl
  match c, hl with
  | [c0, c1, c2], _ =>
    simp only [List.mem_cons, List.not_mem_nil, or_false, forall_eq_or_imp, forall_eq, h8, hi, hs] at hf
    obtain ⟨k0, k1, k2⟩ := hf
    obtain ⟨x, hx, wx⟩ := k0.int Tryz.underlying5
    obtain ⟨y, hy, wy⟩ := k2.int Tryz.underlying3
    have key : ∀ a len cap, c1 = .slice a len cap → ∃ p : OpS, [c0, c1, c2] = p.enc ∧ p.Ok w := by
      rintro a len cap rfl
      obtain ⟨ps, e1, e2, e3, e4, e5⟩ := Reads.rows Tryz.underlying31 (sz := 1) hs1 (by omega) (fun p : CPrt => [p.v]) (fun p => p.Ok w ∧ p.len ≤ 9223372036854775807) (fun c hc => by
        obtain ⟨a, len, cap, xs, rfl, k1, k2, k3, k4, k5⟩ := hc.bytes Tryz.underlying46 Tryz.underlying5 h8
        refine ⟨⟨a, len, cap, xs⟩, rfl, ⟨k4, k1, k2, k5⟩, ?_⟩
        simp only [maxLen] at k3
        show len ≤ _
        omega) k1
      simp at hx hy
      subst hx hy e1
      simp only [maxLen] at e3
      have wy2 : -9223372036854775808 ≤ y ∧ y ≤ 9223372036854775807 := bounds_i64 wy
      exact ⟨⟨x, a, cap, ps, y⟩, rfl, ⟨e4.slE, e5, e2, by dsimp only; omega, bounds_u8 wx, wy2⟩⟩
    rcases k1.slice Tryz.underlying31 with h9 | ⟨ad, l, cc, hcs, _⟩
    · simp at h9; exact key _ _ _ h9
    · simp at hcs; exact key _ _ _ hcs
set_option maxRecDepth 100000 in
set_option maxHeartbeats 4000000 in
theorem sops_of {w : World} {v : Value} {r : Reach} {base : Nat} (hok : Value.okWide Tryz.prog w r base 22 v) (h : Reads Tryz.prog w 22 v.cells.toList) :
    ∃ ap cp0 ps, v = .slice ap ps.length cp0 ∧ ps.length ≤ 9223372036854775807 ∧ (∀ p ∈ ps, p.Ok w) ∧ SlF OpS.enc w ap ps := by
  obtain ⟨a, len, cap, rfl⟩ := WideShapes.okWide_slice Tryz.underlying22 hok
  have h' : Reads Tryz.prog w 22 [.slice a len cap] := h
  obtain ⟨ps, h1, h2, h3, h4, h5⟩ := h'.rows Tryz.underlying22 (sz := 3) (by kernel_rfl) (by omega) OpS.enc (fun p => p.Ok w) (fun c hc => sop_reads hc)
  subst h1
  exact ⟨a, cap, ps, rfl, by simp only [maxLen] at h3; omega, h5, h4⟩
set_option maxRecDepth 100000 in
set_option maxHeartbeats 4000000 in
theorem sfew_c (ps : List OpS) (ap : Option Addr) (cp0 : Nat) (w : World) (hbig : ps.length ≤ 9223372036854775807) (hps : ∀ p ∈ ps, p.Ok w) (hO : SlF OpS.enc w ap ps) :
    CA Tryz.prog 6 [.slice ap ps.length cp0, .int .i64 30] w (Ret (fun z : Bool => .bool z) [] (fun _ => []) (fun z => z = true → ps.length ≤ 30 ∧ ∀ p ∈ ps, p.ls.length ≤ 30) w) := by
  refine enter (L := []) (X := []) Tryz.func6 rfl Tryz.ntmps6 rfl rfl (Has.nil _) ?_
  repeat (first | refine c_seq ?_ | (refine c_region (id := 0) ?_; refine sq qa ?_; refine l_nil ?_) | (refine c_region (id := 1) ?_; refine sq qa ?_; refine l_nil ?_) | (refine c_region (id := 2) ?_; refine sq qa ?_; refine l_nil ?_) | refine n_then ?_ | refine c_block ?_ | refine c_skip ?_ | refine n_block ?_ | refine c_exit ?_ | refine n_then_exit ?_ | refine n_block_eq ?_ | refine n_block_ne rfl ?_ | refine c_ret ?_ | refine n_then_ret ?_ | refine n_block_ret ?_ | refine c_cond_t rfl ?_ | refine c_cond_f rfl ?_ | refine r_succ ?_ )
  refine c_loop (γ := Nat × Nat) (fun z => [(6, .int .i64 ((z.1 : Nat) : Int)), (5, .int .i64 ((z.2 : Nat) : Int)), (0, .slice ap ps.length cp0), (1, .int .i64 30)]) (fun _ => w.heap.size) (fun _ => []) (fun z => z.1 ≤ ps.length ∧ z.1 ≤ 100 ∧ z.2 ≤ 1000000 * z.1 ∧ ∀ p ∈ ps.take z.1, p.ls.length ≤ 30) (fun z => ps.length - z.1) ⟨0, 0⟩ ⟨by simp, by simp, by simp, by simp⟩ ⟨rfl, rfl, rfl, rfl, trivial⟩ rfl (List.nil_sublist _) ?_
  rintro ⟨i, s0⟩ ⟨hi1, hi2, hs0, hsm⟩
  dsimp only at hi1 hi2 hs0 hsm ⊢
  have fin : ∀ (hno : ¬ (i < ps.length ∧ i < 100)), ∀ b : Bool, (b = true → ps.length ≤ 30) → b = true → ps.length ≤ 30 ∧ ∀ p ∈ ps, p.ls.length ≤ 30 := fun hno b h9 hb => by
    have h5 := h9 hb
    have hip : i = ps.length := by omega
    rw [hip, List.take_length] at hsm
    exact ⟨h5, hsm⟩
  by_cases h1 : i < ps.length
  · by_cases h2 : i < 100
    · obtain ⟨p, hpi⟩ : ∃ p, ps[i]? = some p := ⟨_, List.getElem?_eq_getElem h1⟩
      have hpk := hps p (List.mem_of_getElem? hpi)
      have hpm := hpk.m
      obtain ⟨g, o, rfl, hOk⟩ := hO.get h1
      have hz : nth (ps.flatMap OpS.enc) (i * 3 + 1) = some (.slice p.a p.ls.length p.cap) := by rw [flat_nth OpS.enc_len hpi (by omega)]; rfl
      repeat (first | refine c_seq ?_ | (refine c_region (id := 3) ?_; refine sq qm ?_; refine sq qm ?_; refine sq qls ?_; refine sq (by first | exact dlsst | exact dlssf) ?_; refine sq qm ?_; (first | refine sk ?_ | refine skv ?_ | (refine st_want rfl rfl ?_; refine sq qm ?_)); (first | refine sk ?_ | refine skv ?_ | (refine st_want rfl rfl ?_; refine sq (by first | exact dlsst | exact dlssf) ?_)); refine sq (by first | exact qpt | exact qpf) ?_; refine l_nil ?_) | (refine c_region (id := 5) ?_; refine sq qa ?_; refine l_nil ?_) | refine n_then ?_ | refine c_block ?_ | refine c_skip ?_ | refine n_block ?_ | refine c_exit ?_ | refine n_then_exit ?_ | refine n_block_eq ?_ | refine n_block_ne rfl ?_ | refine c_ret ?_ | refine n_then_ret ?_ | refine n_block_ret ?_ | refine c_cond_t rfl ?_ | refine c_cond_f rfl ?_ | refine r_succ ?_ )
      refine c_loop (γ := Nat × Nat) (fun z => [(7, .int .i64 ((z.1 : Nat) : Int)), (5, .int .i64 ((z.2 : Nat) : Int)), (6, .int .i64 (i : Int)), (0, .slice (some ⟨g, o, none⟩) ps.length cp0), (1, .int .i64 30)]) (fun _ => w.heap.size) (fun _ => []) (fun z => z.1 ≤ p.ls.length ∧ z.1 ≤ 100 ∧ z.2 ≤ s0 + 5000 * z.1) (fun z => p.ls.length - z.1) ⟨0, s0⟩ ⟨by simp, by simp, by simp⟩ ⟨rfl, rfl, rfl, rfl, rfl, trivial⟩ rfl (List.nil_sublist _) ?_
      rintro ⟨j, s⟩ ⟨hj1, hj2, hs1⟩
      dsimp only at hj1 hj2 hs1 ⊢
      by_cases h3 : j < p.ls.length ∧ j < 100
      · obtain ⟨h3a, h3b⟩ := h3
        obtain ⟨q, hq⟩ : ∃ q, p.ls[j]? = some q := ⟨_, List.getElem?_eq_getElem h3a⟩
        have hql := (hpk.o q (List.mem_of_getElem? hq)).2
        obtain ⟨g2, o2, hpa, hOq⟩ := hpk.s.get h3a
        rw [hpa] at hz
        have hn9 : nth (p.ls.map CPrt.v) j = some (.slice q.a q.len q.cap) := nth_map hq
        repeat (first | refine c_seq ?_ | (refine c_region (id := 6) ?_; refine sq qm ?_; refine sq qm ?_; refine sq qm ?_; refine sq (by exact qis (o' := o + i * 3) (ho := by omega)) ?_; refine sq qf ?_; refine sq (by exact q_load rfl (by have h9 := Rd.oldn (X := []) (L := []) hOk hz (by simp); rw [← Nat.add_assoc] at h9; exact h9)) ?_; refine sq qls ?_; refine sq (by first | exact dlsst | exact dlssf) ?_; refine sq qm ?_; (first | refine sk ?_ | refine skv ?_ | (refine st_want rfl rfl ?_; refine sq qm ?_)); (first | refine sk ?_ | refine skv ?_ | (refine st_want rfl rfl ?_; refine sq (by first | exact dlsst | exact dlssf) ?_)); refine sq (by first | exact qpt | exact qpf) ?_; refine l_nil ?_) | (refine c_region (id := 7) ?_; refine sq qm ?_; refine sq qadd64 ?_; refine sq qa ?_; refine l_nil ?_) | (refine c_region (id := 8) ?_; refine sq qm ?_; refine sq qm ?_; refine sq qm ?_; refine sq (by exact qis (o' := o + i * 3) (ho := by omega)) ?_; refine sq qf ?_; refine sq (by exact q_load rfl (by have h9 := Rd.oldn (X := []) (L := []) hOk hz (by simp); rw [← Nat.add_assoc] at h9; exact h9)) ?_; refine sq qm ?_; refine sq (by exact qis (o' := o2 + j) (ho := by omega)) ?_; refine sq (by exact ql (hr := Rd.oldn hOq hn9 (by simp))) ?_; refine sq qls ?_; refine sq (by exact Qt.cast (v' := .int .i64 ((min q.len 5000 : Nat) : Int)) (congrArg (Value.int .i64) (by split <;> omega)) (q_min rfl rfl)) ?_; refine sq (by exact Qt.cast (v' := .int .i64 (((s + min q.len 5000) : Nat) : Int)) (congrArg (Value.int .i64) (by omega)) (q_add64 rfl rfl ⟨by omega, by omega⟩ rfl)) ?_; refine sq qa ?_; refine l_nil ?_) | refine n_then ?_ | refine c_block ?_ | refine c_skip ?_ | refine n_block ?_ | refine c_exit ?_ | refine n_then_exit ?_ | refine n_block_eq ?_ | refine n_block_ne rfl ?_ | refine c_ret ?_ | refine n_then_ret ?_ | refine n_block_ret ?_ | refine c_cond_t rfl ?_ | refine c_cond_f rfl ?_ | refine r_succ ?_ )
        refine c_round (γ := Nat × Nat) ⟨j + 1, s + min q.len 5000⟩ ⟨by dsimp only; omega, by dsimp only; omega, by dsimp only; omega⟩ (by dsimp only; omega) ⟨rfl, rfl, rfl, rfl, rfl, trivial⟩ rfl (List.nil_sublist _)
      · by_cases h3a : j < p.ls.length
        · have hj9 : j = 100 := by omega
          repeat (first | refine c_seq ?_ | (refine c_region (id := 6) ?_; refine sq qm ?_; refine sq qm ?_; refine sq qm ?_; refine sq (by exact qis (o' := o + i * 3) (ho := by omega)) ?_; refine sq qf ?_; refine sq (by exact q_load rfl (by have h9 := Rd.oldn (X := []) (L := []) hOk hz (by simp); rw [← Nat.add_assoc] at h9; exact h9)) ?_; refine sq qls ?_; refine sq (by first | exact dlsst | exact dlssf) ?_; refine sq qm ?_; (first | refine sk ?_ | refine skv ?_ | (refine st_want rfl rfl ?_; refine sq qm ?_)); (first | refine sk ?_ | refine skv ?_ | (refine st_want rfl rfl ?_; refine sq (by first | exact dlsst | exact dlssf) ?_)); refine sq (by first | exact qpt | exact qpf) ?_; refine l_nil ?_) | (refine c_region (id := 9) ?_; refine sq qm ?_; refine sq qm ?_; refine sq (by exact qis (o' := o + i * 3) (ho := by omega)) ?_; refine sq qf ?_; refine sq (by exact q_load rfl (by have h9 := Rd.oldn (X := []) (L := []) hOk hz (by simp); rw [← Nat.add_assoc] at h9; exact h9)) ?_; refine sq qls ?_; refine sq (by first | exact dgtrt | exact dgtrf) ?_; refine l_nil ?_) | (refine c_region (id := 10) ?_; refine sq qa ?_; refine l_nil ?_) | refine n_then ?_ | refine c_block ?_ | refine c_skip ?_ | refine n_block ?_ | refine c_exit ?_ | refine n_then_exit ?_ | refine n_block_eq ?_ | refine n_block_ne rfl ?_ | refine c_ret ?_ | refine n_then_ret ?_ | refine n_block_ret ?_ | refine c_cond_t rfl ?_ | refine c_cond_f rfl ?_ | refine r_succ ?_ )
          (first | apply r_ret false | apply r_end false); exact rfl; exact rfl; exact (.tmp rfl .nil); exact rfl; exact (List.nil_sublist _); exact new_nil; exact (fun h => by cases h)
        · have hj9 : j = p.ls.length := by omega
          by_cases h30 : 30 < p.ls.length
          · repeat (first | refine c_seq ?_ | (refine c_region (id := 6) ?_; refine sq qm ?_; refine sq qm ?_; refine sq qm ?_; refine sq (by exact qis (o' := o + i * 3) (ho := by omega)) ?_; refine sq qf ?_; refine sq (by exact q_load rfl (by have h9 := Rd.oldn (X := []) (L := []) hOk hz (by simp); rw [← Nat.add_assoc] at h9; exact h9)) ?_; refine sq qls ?_; refine sq (by first | exact dlsst | exact dlssf) ?_; refine sq qm ?_; (first | refine sk ?_ | refine skv ?_ | (refine st_want rfl rfl ?_; refine sq qm ?_)); (first | refine sk ?_ | refine skv ?_ | (refine st_want rfl rfl ?_; refine sq (by first | exact dlsst | exact dlssf) ?_)); refine sq (by first | exact qpt | exact qpf) ?_; refine l_nil ?_) | (refine c_region (id := 9) ?_; refine sq qm ?_; refine sq qm ?_; refine sq (by exact qis (o' := o + i * 3) (ho := by omega)) ?_; refine sq qf ?_; refine sq (by exact q_load rfl (by have h9 := Rd.oldn (X := []) (L := []) hOk hz (by simp); rw [← Nat.add_assoc] at h9; exact h9)) ?_; refine sq qls ?_; refine sq (by first | exact dgtrt | exact dgtrf) ?_; refine l_nil ?_) | (refine c_region (id := 10) ?_; refine sq qa ?_; refine l_nil ?_) | refine n_then ?_ | refine c_block ?_ | refine c_skip ?_ | refine n_block ?_ | refine c_exit ?_ | refine n_then_exit ?_ | refine n_block_eq ?_ | refine n_block_ne rfl ?_ | refine c_ret ?_ | refine n_then_ret ?_ | refine n_block_ret ?_ | refine c_cond_t rfl ?_ | refine c_cond_f rfl ?_ | refine r_succ ?_ )
            (first | apply r_ret false | apply r_end false); exact rfl; exact rfl; exact (.tmp rfl .nil); exact rfl; exact (List.nil_sublist _); exact new_nil; exact (fun h => by cases h)
          · repeat (first | refine c_seq ?_ | (refine c_region (id := 4) ?_; refine sq qm ?_; refine sq qadd64 ?_; refine sq qa ?_; refine l_nil ?_) | (refine c_region (id := 6) ?_; refine sq qm ?_; refine sq qm ?_; refine sq qm ?_; refine sq (by exact qis (o' := o + i * 3) (ho := by omega)) ?_; refine sq qf ?_; refine sq (by exact q_load rfl (by have h9 := Rd.oldn (X := []) (L := []) hOk hz (by simp); rw [← Nat.add_assoc] at h9; exact h9)) ?_; refine sq qls ?_; refine sq (by first | exact dlsst | exact dlssf) ?_; refine sq qm ?_; (first | refine sk ?_ | refine skv ?_ | (refine st_want rfl rfl ?_; refine sq qm ?_)); (first | refine sk ?_ | refine skv ?_ | (refine st_want rfl rfl ?_; refine sq (by first | exact dlsst | exact dlssf) ?_)); refine sq (by first | exact qpt | exact qpf) ?_; refine l_nil ?_) | (refine c_region (id := 9) ?_; refine sq qm ?_; refine sq qm ?_; refine sq (by exact qis (o' := o + i * 3) (ho := by omega)) ?_; refine sq qf ?_; refine sq (by exact q_load rfl (by have h9 := Rd.oldn (X := []) (L := []) hOk hz (by simp); rw [← Nat.add_assoc] at h9; exact h9)) ?_; refine sq qls ?_; refine sq (by first | exact dgtrt | exact dgtrf) ?_; refine l_nil ?_) | refine n_then ?_ | refine c_block ?_ | refine c_skip ?_ | refine n_block ?_ | refine c_exit ?_ | refine n_then_exit ?_ | refine n_block_eq ?_ | refine n_block_ne rfl ?_ | refine c_ret ?_ | refine n_then_ret ?_ | refine n_block_ret ?_ | refine c_cond_t rfl ?_ | refine c_cond_f rfl ?_ | refine r_succ ?_ )
            refine c_round (γ := Nat × Nat) ⟨i + 1, s⟩ ⟨by dsimp only; omega, by dsimp only; omega, by dsimp only; omega, ?_⟩ (by dsimp only; omega) ⟨rfl, rfl, rfl, rfl, trivial⟩ rfl (List.nil_sublist _)
            intro p2 hp2
            dsimp only at hp2
            rw [List.take_add_one, hpi] at hp2
            rcases List.mem_append.1 hp2 with h9 | h9
            · exact hsm p2 h9
            · simp at h9; rw [h9]; omega
    · by_cases h5 : ps.length ≤ 30
      · omega
      · repeat (first | refine c_seq ?_ | (refine c_region (id := 3) ?_; refine sq qm ?_; refine sq qm ?_; refine sq qls ?_; refine sq (by first | exact dlsst | exact dlssf) ?_; refine sq qm ?_; (first | refine sk ?_ | refine skv ?_ | (refine st_want rfl rfl ?_; refine sq qm ?_)); (first | refine sk ?_ | refine skv ?_ | (refine st_want rfl rfl ?_; refine sq (by first | exact dlsst | exact dlssf) ?_)); refine sq (by first | exact qpt | exact qpf) ?_; refine l_nil ?_) | (refine c_region (id := 11) ?_; refine sq qm ?_; refine sq qls ?_; refine sq qm ?_; refine sq (by first | exact dleqt | exact dleqf) ?_; refine sq qm ?_; (first | refine sk ?_ | refine skv ?_ | (refine st_want rfl rfl ?_; refine sq qm ?_)); (first | refine sk ?_ | refine skv ?_ | (refine st_want rfl rfl ?_; refine sq (by first | exact dleqt | exact dleqf) ?_)); refine sq (by first | exact qpt | exact qpf) ?_; refine sq qa ?_; refine l_nil ?_) | refine n_then ?_ | refine c_block ?_ | refine c_skip ?_ | refine n_block ?_ | refine c_exit ?_ | refine n_then_exit ?_ | refine n_block_eq ?_ | refine n_block_ne rfl ?_ | refine c_ret ?_ | refine n_then_ret ?_ | refine n_block_ret ?_ | refine c_cond_t rfl ?_ | refine c_cond_f rfl ?_ | refine r_succ ?_ )
        (first | apply r_ret false | apply r_end false); exact rfl; exact rfl; exact (.tmp rfl .nil); exact rfl; exact (List.nil_sublist _); exact new_nil; exact (fun h => by cases h)
  · by_cases h5 : ps.length ≤ 30
    · by_cases h12 : s0 ≤ 12000
      · repeat (first | refine c_seq ?_ | (refine c_region (id := 3) ?_; refine sq qm ?_; refine sq qm ?_; refine sq qls ?_; refine sq (by first | exact dlsst | exact dlssf) ?_; refine sq qm ?_; (first | refine sk ?_ | refine skv ?_ | (refine st_want rfl rfl ?_; refine sq qm ?_)); (first | refine sk ?_ | refine skv ?_ | (refine st_want rfl rfl ?_; refine sq (by first | exact dlsst | exact dlssf) ?_)); refine sq (by first | exact qpt | exact qpf) ?_; refine l_nil ?_) | (refine c_region (id := 11) ?_; refine sq qm ?_; refine sq qls ?_; refine sq qm ?_; refine sq (by first | exact dleqt | exact dleqf) ?_; refine sq qm ?_; (first | refine sk ?_ | refine skv ?_ | (refine st_want rfl rfl ?_; refine sq qm ?_)); (first | refine sk ?_ | refine skv ?_ | (refine st_want rfl rfl ?_; refine sq (by first | exact dleqt | exact dleqf) ?_)); refine sq (by first | exact qpt | exact qpf) ?_; refine sq qa ?_; refine l_nil ?_) | refine n_then ?_ | refine c_block ?_ | refine c_skip ?_ | refine n_block ?_ | refine c_exit ?_ | refine n_then_exit ?_ | refine n_block_eq ?_ | refine n_block_ne rfl ?_ | refine c_ret ?_ | refine n_then_ret ?_ | refine n_block_ret ?_ | refine c_cond_t rfl ?_ | refine c_cond_f rfl ?_ | refine r_succ ?_ )
        (first | apply r_ret true | apply r_end true); exact rfl; exact rfl; exact (.tmp rfl .nil); exact rfl; exact (List.nil_sublist _); exact new_nil; exact (fin (by omega) true (fun _ => h5))
      · repeat (first | refine c_seq ?_ | (refine c_region (id := 3) ?_; refine sq qm ?_; refine sq qm ?_; refine sq qls ?_; refine sq (by first | exact dlsst | exact dlssf) ?_; refine sq qm ?_; (first | refine sk ?_ | refine skv ?_ | (refine st_want rfl rfl ?_; refine sq qm ?_)); (first | refine sk ?_ | refine skv ?_ | (refine st_want rfl rfl ?_; refine sq (by first | exact dlsst | exact dlssf) ?_)); refine sq (by first | exact qpt | exact qpf) ?_; refine l_nil ?_) | (refine c_region (id := 11) ?_; refine sq qm ?_; refine sq qls ?_; refine sq qm ?_; refine sq (by first | exact dleqt | exact dleqf) ?_; refine sq qm ?_; (first | refine sk ?_ | refine skv ?_ | (refine st_want rfl rfl ?_; refine sq qm ?_)); (first | refine sk ?_ | refine skv ?_ | (refine st_want rfl rfl ?_; refine sq (by first | exact dleqt | exact dleqf) ?_)); refine sq (by first | exact qpt | exact qpf) ?_; refine sq qa ?_; refine l_nil ?_) | refine n_then ?_ | refine c_block ?_ | refine c_skip ?_ | refine n_block ?_ | refine c_exit ?_ | refine n_then_exit ?_ | refine n_block_eq ?_ | refine n_block_ne rfl ?_ | refine c_ret ?_ | refine n_then_ret ?_ | refine n_block_ret ?_ | refine c_cond_t rfl ?_ | refine c_cond_f rfl ?_ | refine r_succ ?_ )
        (first | apply r_ret false | apply r_end false); exact rfl; exact rfl; exact (.tmp rfl .nil); exact rfl; exact (List.nil_sublist _); exact new_nil; exact (fun h => by cases h)
    · repeat (first | refine c_seq ?_ | (refine c_region (id := 3) ?_; refine sq qm ?_; refine sq qm ?_; refine sq qls ?_; refine sq (by first | exact dlsst | exact dlssf) ?_; refine sq qm ?_; (first | refine sk ?_ | refine skv ?_ | (refine st_want rfl rfl ?_; refine sq qm ?_)); (first | refine sk ?_ | refine skv ?_ | (refine st_want rfl rfl ?_; refine sq (by first | exact dlsst | exact dlssf) ?_)); refine sq (by first | exact qpt | exact qpf) ?_; refine l_nil ?_) | (refine c_region (id := 11) ?_; refine sq qm ?_; refine sq qls ?_; refine sq qm ?_; refine sq (by first | exact dleqt | exact dleqf) ?_; refine sq qm ?_; (first | refine sk ?_ | refine skv ?_ | (refine st_want rfl rfl ?_; refine sq qm ?_)); (first | refine sk ?_ | refine skv ?_ | (refine st_want rfl rfl ?_; refine sq (by first | exact dleqt | exact dleqf) ?_)); refine sq (by first | exact qpt | exact qpf) ?_; refine sq qa ?_; refine l_nil ?_) | refine n_then ?_ | refine c_block ?_ | refine c_skip ?_ | refine n_block ?_ | refine c_exit ?_ | refine n_then_exit ?_ | refine n_block_eq ?_ | refine n_block_ne rfl ?_ | refine c_ret ?_ | refine n_then_ret ?_ | refine n_block_ret ?_ | refine c_cond_t rfl ?_ | refine c_cond_f rfl ?_ | refine r_succ ?_ )
      (first | apply r_ret false | apply r_end false); exact rfl; exact rfl; exact (.tmp rfl .nil); exact rfl; exact (List.nil_sublist _); exact new_nil; exact (fun h => by cases h)
end Go.Proofs.YtgmghkakiocmjaaGreatDoor
namespace Go.Proofs.YtgmghkakiocmjaaGreatDoor
open Go Go.RowKit
set_option linter.unusedVariables false
set_option linter.unusedSimpArgs false
set_option maxRecDepth 100000 in
set_option maxHeartbeats 4000000 in
theorem sgen_x (at_ : Bool) (gs ga gb gd fra room : Nat) (ha : Hd) (s : Value) (hK : RB ha.nt) (w : World) (hO : Old w gs 0 (stC at_ ga gb).toList) (hL0 : Has [LgB ga gd fra room ha s false] w) : CA Tryz.prog 17 [.pointer (some ⟨gs, 0, none⟩)] w (RV (.int .u64 (genH ha)) w) := by
  refine enter (L := [LgB ga gd fra room ha s false]) (X := []) Tryz.func17 rfl Tryz.ntmps17 rfl rfl hL0 ?_
  repeat (first | refine c_seq ?_ | (refine c_region (id := 0) ?_; refine sq qa ?_; refine l_nil ?_) | (refine c_region (id := 1) ?_; refine sq qm ?_; refine se ?_; refine ecp rfl rfl (fun w hC hm hL => by exact slog_c at_ gs ga gb w (hO.ch hC (by simp))) ?_; intro m' hm'; refine se ?_; refine ecp rfl rfl (fun w hC hm hL => by exact gener_c ga gd fra room ha hK _ false w (hL.sub (by (repeat (first | exact List.nil_sublist _ | exact List.Sublist.slnil | apply List.Sublist.cons_cons | exact List.Sublist.refl _ | apply List.Sublist.cons))))) ?_; intro m' hm'; refine sq qa ?_; refine l_nil ?_) | refine n_then ?_ | refine c_block ?_ | refine c_skip ?_ | refine n_block ?_ | refine c_exit ?_ | refine n_then_exit ?_ | refine n_block_eq ?_ | refine n_block_ne rfl ?_ | refine c_ret ?_ | refine n_then_ret ?_ | refine n_block_ret ?_ | refine c_cond_t rfl ?_ | refine c_cond_f rfl ?_ | refine r_succ ?_ )
  (first | apply r_ret () | apply r_end ()); exact rfl; exact rfl; exact (.tmp rfl .nil); exact rfl; exact (List.nil_sublist _); exact new_nil; exact trivial
set_option maxRecDepth 100000 in
set_option maxHeartbeats 4000000 in
theorem compact_y (gs : Nat) (at_ : Bool) (ga : Nat) (ba : Option Addr) (ca : Nat) (ha : Hd) (bsa : List Int) (fra gb : Nat) (bb : Option Addr) (cb : Nat) (hb : Hd) (bsb : List Int) (frb room gd : Nat) (gw gm : Nat) (D : Dk) (nd : Nat) (hok : D.OK nd) (hbka : BK ba ca bsa.length) (hla : bsa.length ≤ room) (hroom : room ≤ 60000) (hfit : frb + 2 + (room + 63) / 64 ≤ nd) (hsa : 0 ≤ ha.ser ∧ ha.ser < 4611686018427387902) (hsb : 0 ≤ hb.ser ∧ hb.ser < 4611686018427387902) (gen : Nat) (hgen : genH ha = gen) (hg9 : gen < 4611686018427387902) (hKa : RB ha.nt) (ap : Option Addr) (cp0 : Nat) (ps : List CPrt) (hps4 : ∀ p ∈ ps, p.len ≤ 4096) (hfp : (packL ps).length ≤ room) (hpn : ps.length ≤ 1000000) (h1 : Hd) (hh1 : h1 = ⟨hb.ser + 1, ((0 : Nat) : Int), hb.nt⟩) (pp : Nat) (hpp : (pp : Int) = h1.ser % 2) (r1 : Bool × Dk) (hr1 : r1 = wrAll [(frb + pp, secH h1)] D) (hrt1 : r1.1 = true) (hok1 : r1.2.OK nd) (h2 : Hd) (hh2 : h2 = ⟨h1.ser + 1, (([] : List Int) ++ packL ps).length, ntA ((gen : Int) + 1)⟩) (qq : Nat) (hqq : (qq : Int) = h2.ser % 2) (r2 : Bool × Dk) (hr2 : r2 = appR frb qq h2 [] (packL ps) r1.2) (hrt2 : r2.1 = true) (w : World) (hS : Has (StD gs at_ ga ba ca ha bsa fra gb bb cb hb bsb frb room gd gw gm D) w) (hps : ∀ p ∈ ps, p.Ok w) (hO : SlE CPrt.v w ap ps) (hpx : ∀ p ∈ ps, ∀ g o, p.a = some ⟨g, o, none⟩ → 0 < p.xs.length → g ∉ [gs, gb, gd, gw, gm]) (hox : ∀ g o, ap = some ⟨g, o, none⟩ → 0 < ps.length → g ∉ [gs, gb, gd, gw, gm]) :
    CA Tryz.prog 12 [.pointer (some ⟨gs, 0, none⟩), .slice ap ps.length cp0] w (Ret (fun _ : Option Addr × Nat => .int .i64 0) [gs, gb, gd, gw, gm] (fun z => .blk gs (.cells (stC (!at_) gb ga) 56 (0, 0)) :: LogL gb gd gw gm frb room h2 z.1 z.2 ([] ++ packL ps) r2.2) (fun z => BK z.1 z.2 (([] : List Int) ++ packL ps).length) w) := by
  have hnd := hok.n9
  have hnt2 : h2.nt = ntA ((gen : Int) + 1) := by rw [hh2]
  refine enter (L := (StD gs at_ ga ba ca ha bsa fra gb bb cb hb bsb frb room gd gw gm D)) (X := [gs, gb, gd, gw, gm]) Tryz.func12 rfl Tryz.ntmps12 rfl rfl hS ?_
  repeat (first | refine c_seq ?_ | (refine c_region (id := 0) ?_; refine sq qa ?_; refine l_nil ?_) | (refine c_region (id := 1) ?_; refine sq qm ?_; refine se ?_; refine ecp rfl rfl (fun w hC hm hL => by exact soth_c at_ gs ga gb w (hL.old (k := 3) (by (repeat (first | exact List.Mem.head _ | apply List.Mem.tail))) (by cases at_ <;> rfl))) ?_; intro m' hm'; refine sq qa ?_; refine l_nil ?_) | (refine c_region (id := 2) ?_; refine sq qm ?_; refine sq qm ?_; refine sq qm ?_; refine se ?_; refine ecp rfl rfl (fun w hC hm hL => by have h9 := sroom_c gs at_ ga ba ca ha bsa fra gb bb cb hb bsb frb room gd ⟨hla, by omega⟩ w (hL.sub (by (repeat (first | exact List.nil_sublist _ | exact List.Sublist.slnil | apply List.Sublist.cons_cons | exact List.Sublist.refl _ | apply List.Sublist.cons)))); rw [show ((room : Int) - bsa.length) = ((room - bsa.length : Nat) : Int) by omega] at h9; exact h9) ?_; intro m' hm'; refine sq qm ?_; refine se ?_; refine ecp rfl rfl (fun w hC hm hL => by exact slog_c at_ gs ga gb w (hL.old (k := 3) (by (repeat (first | exact List.Mem.head _ | apply List.Mem.tail))) (by cases at_ <;> rfl))) ?_; intro m' hm'; refine se ?_; refine e_callL (enc := (Value.int .u8)) (e := 5) rfl rfl (by kernel_rfl) rfl (fun w hC hm hL => by exact lbytes_c ga gd fra room ha ba ca false bsa (by omega) w (SlE.own hL (by (repeat (first | exact List.Mem.head _ | apply List.Mem.tail))) (os_bk hbka)) (hL.sub (by (repeat (first | exact List.nil_sublist _ | exact List.Sublist.slnil | apply List.Sublist.cons_cons | exact List.Sublist.refl _ | apply List.Sublist.cons))))) ?_; intro b6 cap6 zs6 m6 hz6 ho6 hm6; rw [hz6]; refine sq qls ?_; refine sq (by exact Qt.cast (v' := .int .i64 ((room : Nat) : Int)) (congrArg (Value.int .i64) (by omega)) (q_add64 rfl rfl ⟨by omega, by omega⟩ rfl)) ?_; refine se ?_; refine ecl rfl rfl (fun w hC hm hL => by exact packed_ok gs at_ ga ba ca ha bsa fra gb bb cb hb bsb frb room gd ap cp0 ps room hroom hps4 hfp hpn w (hL.sub (by (repeat (first | exact List.nil_sublist _ | exact List.Sublist.slnil | apply List.Sublist.cons_cons | exact List.Sublist.refl _ | apply List.Sublist.cons)))) (fun p hp => (hps p hp).chn hC (fun g o e hl => hpx p hp g o e hl)) (hO.chn hC hox)) ?_; intro z5 m5 hz5 hn5 hm5; obtain ⟨b5, cap5⟩ := z5; dsimp only at hz5 ⊢; refine sq qm ?_; refine sq qe ?_; refine sq qe ?_; refine sq qa ?_; refine sq qa ?_; refine l_nil ?_) | (refine c_region (id := 3) ?_; refine sq qm ?_; refine sq (by exact q_neq_nn (hx := rfl)) ?_; refine l_nil ?_) | (refine c_region (id := 5) ?_; refine sq qm ?_; refine se ?_; refine ecp rfl rfl (fun w hC hm hL => by exact slog_c at_ gs ga gb w (hL.old (k := 3) (by (repeat (first | exact List.Mem.head _ | apply List.Mem.tail))) (by cases at_ <;> rfl))) ?_; intro m' hm'; refine se ?_; refine ecp rfl rfl (fun w hC hm hL => by first | exact serial_c ga gd fra room ha _ false w (hL.sub (by (repeat (first | exact List.nil_sublist _ | exact List.Sublist.slnil | apply List.Sublist.cons_cons | exact List.Sublist.refl _ | apply List.Sublist.cons)))) | exact serial_c gb gd frb room hb _ false w (hL.sub (by (repeat (first | exact List.nil_sublist _ | exact List.Sublist.slnil | apply List.Sublist.cons_cons | exact List.Sublist.refl _ | apply List.Sublist.cons))))) ?_; intro m' hm'; refine sq qm ?_; refine se ?_; refine ecp rfl rfl (fun w hC hm hL => by first | exact serial_c ga gd fra room ha _ false w (hL.sub (by (repeat (first | exact List.nil_sublist _ | exact List.Sublist.slnil | apply List.Sublist.cons_cons | exact List.Sublist.refl _ | apply List.Sublist.cons)))) | exact serial_c gb gd frb room hb _ false w (hL.sub (by (repeat (first | exact List.nil_sublist _ | exact List.Sublist.slnil | apply List.Sublist.cons_cons | exact List.Sublist.refl _ | apply List.Sublist.cons))))) ?_; intro m' hm'; refine sq qm ?_; refine se ?_; refine ecp rfl rfl (fun w hC hm hL => by have h9 := sgen_c gs at_ ga ba ca ha bsa fra gb bb cb hb bsb frb room gd hKa w (hL.sub (by (repeat (first | exact List.nil_sublist _ | exact List.Sublist.slnil | apply List.Sublist.cons_cons | exact List.Sublist.refl _ | apply List.Sublist.cons)))); rw [hgen] at h9; exact h9) ?_; intro m' hm'; refine sq (by exact q_max3 rfl rfl rfl) ?_; refine sq (by exact Qt.cast (v' := .bool false) (congrArg Value.bool (by rw [decide_eq_false_iff_not]; split <;> split <;> omega)) (q_geq rfl rfl)) ?_; refine l_nil ?_) | refine n_then ?_ | refine c_block ?_ | refine c_skip ?_ | refine n_block ?_ | refine c_exit ?_ | refine n_then_exit ?_ | refine n_block_eq ?_ | refine n_block_ne rfl ?_ | refine c_ret ?_ | refine n_then_ret ?_ | refine n_block_ret ?_ | refine c_cond_t rfl ?_ | refine c_cond_f rfl ?_ | refine r_succ ?_ )
  repeat (first | refine c_seq ?_ | (refine c_region (id := 7) ?_; refine sq qm ?_; refine se ?_; refine e_callX (LgB gb gd frb room hb (.slice bb bsb.length cb) false :: DskL gd gw gm D) _ rfl rfl (by kernel_rfl) rfl (by (repeat (first | exact Sp.nil | (apply Sp.cons; focus (repeat (first | exact Rm.here | apply Rm.there)))))) (fun w hC hm hA hL hap => by exact clear_y gb gd gw gm frb room hb h1 (.slice bb bsb.length cb) D nd hok ⟨by omega, by omega⟩ (by rw [hh1]) (by rw [hh1]) (by rw [hh1]) pp hpp (by omega) r1 hr1 hrt1 w hA) (by intro g hg; exact .inl (by simp [feet, Chunk.foot] at hg ⊢; rcases hg with h | h | h | h <;> simp [h])) (fun _ => rfl) ?_; intro _ m7 _ _ hm7; refine se ?_; refine ecp rfl rfl (fun w hC hm hL => by exact failed_ok _ w) ?_; intro m' hm'; refine sq qa ?_; refine l_nil ?_) | (refine c_region (id := 8) ?_; refine sq qm ?_; refine sq (by exact q_neq_nn (hx := rfl)) ?_; refine l_nil ?_) | refine n_then ?_ | refine c_block ?_ | refine c_skip ?_ | refine n_block ?_ | refine c_exit ?_ | refine n_then_exit ?_ | refine n_block_eq ?_ | refine n_block_ne rfl ?_ | refine c_ret ?_ | refine n_then_ret ?_ | refine n_block_ret ?_ | refine c_cond_t rfl ?_ | refine c_cond_f rfl ?_ | refine r_succ ?_ )
  repeat (first | refine c_seq ?_ | (refine c_region (id := 10) ?_; refine sq qm ?_; refine sq qm ?_; refine sq qm ?_; refine se ?_; refine ecp rfl rfl (fun w hC hm hL => by have h9 := sgen_x at_ gs ga gb gd fra room ha _ hKa w (hL.old (k := 3) (by (repeat (first | exact List.Mem.head _ | apply List.Mem.tail))) (by cases at_ <;> rfl)) (hL.sub (by (repeat (first | exact List.nil_sublist _ | exact List.Sublist.slnil | apply List.Sublist.cons_cons | exact List.Sublist.refl _ | apply List.Sublist.cons)))); rw [hgen] at h9; exact h9) ?_; intro m' hm'; refine sq (by exact Qt.cast (v' := .int .u64 ((gen : Int) + 1)) (congrArg (Value.int .u64) (by omega)) (q_addU rfl rfl)) ?_; refine se ?_; refine ecp rfl rfl (fun w hC hm hL => by exact noteof_c ((gen : Int) + 1) ⟨by omega, by omega⟩ w) ?_; intro m' hm'; refine se ?_; refine e_callX (LogL gb gd gw gm frb room h1 none 0 [] r1.2) _ rfl rfl (by kernel_rfl) rfl (by (repeat (first | exact Sp.nil | (apply Sp.cons; focus (repeat (first | exact Rm.here | apply Rm.there)))))) (fun w hC hm hA hL hap => by have h9 := append_y gb gd gw gm frb room h1 h2 none 0 [] r1.2 nd hok1 (os_log (Nat.le_refl _) (by simp) (.inl ⟨rfl, rfl⟩)) (by simp) (by omega) hfit ⟨by rw [hh1]; dsimp only; omega, by rw [hh1]; dsimp only; omega⟩ qq hqq (by rw [hh2]) b5 (packL ps).length cap5 (packL ps) (by rw [hh2]) rfl (by simp; omega) (SlE.own hL (by (repeat (first | exact List.Mem.head _ | apply List.Mem.tail))) (os_bk hz5)) (fun g o e _ => apart_sl (by (repeat (first | exact List.Mem.head _ | apply List.Mem.tail))) hap g o e) r2 hr2 hrt2 hA; rw [hnt2] at h9; exact h9) (by intro g hg; exact .inl (by simp [feet, Chunk.foot] at hg ⊢; rcases hg with h | h | h | h <;> simp [h])) (fun _ => rfl) ?_; intro z8 m8 hz8 hn8 hm8; obtain ⟨b8, cap8⟩ := z8; dsimp only at hz8 hn8 ⊢; refine se ?_; refine ecp rfl rfl (fun w hC hm hL => by exact failed_ok _ w) ?_; intro m' hm'; refine sq qa ?_; refine l_nil ?_) | (refine c_region (id := 11) ?_; refine sq qm ?_; refine sq (by exact q_neq_nn (hx := rfl)) ?_; refine l_nil ?_) | refine n_then ?_ | refine c_block ?_ | refine c_skip ?_ | refine n_block ?_ | refine c_exit ?_ | refine n_then_exit ?_ | refine n_block_eq ?_ | refine n_block_ne rfl ?_ | refine c_ret ?_ | refine n_then_ret ?_ | refine n_block_ret ?_ | refine c_cond_t rfl ?_ | refine c_cond_f rfl ?_ | refine r_succ ?_ )
  cases at_ with
  | false =>
    repeat (first | refine c_seq ?_ | (refine c_region (id := 13) ?_; refine sq qm ?_; refine sq qm ?_; refine sq qn ?_; refine sq qf ?_; refine sq (by exact ql (hr := Rd.blkn (i := 2) (by (repeat (first | exact List.Mem.head _ | apply List.Mem.tail))) (by rfl))) ?_; refine sq (by exact Qt.cast (v' := .int .i64 1) rfl (q_sub64 rfl rfl ⟨by omega, by omega⟩ rfl)) ?_; refine sq qn ?_; refine sq qf ?_; refine se ?_; refine es1 ?_ (hg := .inl (by simp)); refine l_nil ?_) | (refine c_region (id := 14) ?_; refine sq qa ?_; refine l_nil ?_) | refine n_then ?_ | refine c_block ?_ | refine c_skip ?_ | refine n_block ?_ | refine c_exit ?_ | refine n_then_exit ?_ | refine n_block_eq ?_ | refine n_block_ne rfl ?_ | refine c_ret ?_ | refine n_then_ret ?_ | refine n_block_ret ?_ | refine c_cond_t rfl ?_ | refine c_cond_f rfl ?_ | refine r_succ ?_ )
    refine fgs (A := (.blk gs (.cells (stC true gb ga) 56 (0, 0)) :: LogL gb gd gw gm frb room h2 b8 cap8 ([] ++ packL ps) r2.2)) (by (repeat (first | exact Sp.nil | (apply Sp.cons; focus (repeat (first | exact Rm.here | apply Rm.there)))))) ?_
    (first | apply r_ret (b8, cap8) | apply r_end (b8, cap8)); exact rfl; exact rfl; exact (.tmp rfl .nil); exact rfl; exact (List.Sublist.refl _); exact (by intro g hg; simp only [feet, List.flatMap_cons, List.mem_append] at hg; rcases hg with h9 | h9; (simp [Chunk.foot] at h9; exact .inl (by simp [h9])); rcases h9 with h9 | h9; exact (hn8 g (by simp only [feet, List.flatMap_cons, List.mem_append]; exact .inl h9)).elim (fun h => .inl (by simp [feet, Chunk.foot] at h; rcases h with h | h | h | h <;> simp [h])) .inr; (simp [Chunk.foot] at h9; exact .inl (by rcases h9 with h | h | h | h <;> simp [h]))); exact hz8
  | true =>
    repeat (first | refine c_seq ?_ | (refine c_region (id := 13) ?_; refine sq qm ?_; refine sq qm ?_; refine sq qn ?_; refine sq qf ?_; refine sq (by exact ql (hr := Rd.blkn (i := 2) (by (repeat (first | exact List.Mem.head _ | apply List.Mem.tail))) (by rfl))) ?_; refine sq (by exact Qt.cast (v' := .int .i64 0) rfl (q_sub64 rfl rfl ⟨by omega, by omega⟩ rfl)) ?_; refine sq qn ?_; refine sq qf ?_; refine se ?_; refine es1 ?_ (hg := .inl (by simp)); refine l_nil ?_) | (refine c_region (id := 14) ?_; refine sq qa ?_; refine l_nil ?_) | refine n_then ?_ | refine c_block ?_ | refine c_skip ?_ | refine n_block ?_ | refine c_exit ?_ | refine n_then_exit ?_ | refine n_block_eq ?_ | refine n_block_ne rfl ?_ | refine c_ret ?_ | refine n_then_ret ?_ | refine n_block_ret ?_ | refine c_cond_t rfl ?_ | refine c_cond_f rfl ?_ | refine r_succ ?_ )
    refine fgs (A := (.blk gs (.cells (stC false gb ga) 56 (0, 0)) :: LogL gb gd gw gm frb room h2 b8 cap8 ([] ++ packL ps) r2.2)) (by (repeat (first | exact Sp.nil | (apply Sp.cons; focus (repeat (first | exact Rm.here | apply Rm.there)))))) ?_
    (first | apply r_ret (b8, cap8) | apply r_end (b8, cap8)); exact rfl; exact rfl; exact (.tmp rfl .nil); exact rfl; exact (List.Sublist.refl _); exact (by intro g hg; simp only [feet, List.flatMap_cons, List.mem_append] at hg; rcases hg with h9 | h9; (simp [Chunk.foot] at h9; exact .inl (by simp [h9])); rcases h9 with h9 | h9; exact (hn8 g (by simp only [feet, List.flatMap_cons, List.mem_append]; exact .inl h9)).elim (fun h => .inl (by simp [feet, Chunk.foot] at h; rcases h with h | h | h | h <;> simp [h])) .inr; (simp [Chunk.foot] at h9; exact .inl (by rcases h9 with h | h | h | h <;> simp [h]))); exact hz8
end Go.Proofs.YtgmghkakiocmjaaGreatDoor
namespace Go.Proofs.YtgmghkakiocmjaaGreatDoor
open Go Go.RowKit
set_option linter.unusedVariables false
set_option linter.unusedSimpArgs false
theorem Sel.all : ∀ (L : List Chunk), Sel L L
  | [] => .nil
  | _ :: L => .cons .here (Sel.all L)
theorem Sel.skip {A L : List Chunk} {d : Chunk} (h : Sel A L) : Sel A (d :: L) := by
  induction h with
  | nil => exact .nil
  | cons h1 _ ih =>
    refine .cons (.there h1) ?_
    exact ih
theorem first_long {ls : List CPrt} (h : ¬ ∀ q ∈ ls, q.len ≤ 4096) (hl : ls.length ≤ 30) : ∃ i0 q0, i0 ≤ 30 ∧ ls[i0]? = some q0 ∧ 4096 < q0.len ∧ ∀ j q, j < i0 → ls[j]? = some q → q.len ≤ 4096 := by
  have key : ∀ k, k ≤ ls.length → (∀ j q, j < k → ls[j]? = some q → q.len ≤ 4096) ∨ ∃ i0 q0, i0 < k ∧ ls[i0]? = some q0 ∧ 4096 < q0.len ∧ ∀ j q, j < i0 → ls[j]? = some q → q.len ≤ 4096 := by
    intro k
    induction k with
    | zero => intro _; exact .inl (fun j q hj => by omega)
    | succ k ih =>
      intro hk
      rcases ih (by omega) with h1 | ⟨i0, q0, h1, h2, h3, h4⟩
      · by_cases h5 : ls[k].len ≤ 4096
        · refine .inl fun j q hj hq => ?_
          rcases Nat.lt_succ_iff_lt_or_eq.1 hj with h6 | rfl
          · exact h1 j q h6 hq
          · rw [List.getElem?_eq_getElem (by omega)] at hq
            rw [← Option.some.inj hq]; exact h5
        · exact .inr ⟨k, ls[k], by omega, List.getElem?_eq_getElem (by omega), by omega, h1⟩
      · exact .inr ⟨i0, q0, by omega, h2, h3, h4⟩
  rcases key ls.length (Nat.le_refl _) with h1 | ⟨i0, q0, h1, h2, h3, h4⟩
  · exact absurd (fun q hq => by
      obtain ⟨j, hj, rfl⟩ := List.getElem_of_mem hq
      exact h1 j _ hj (List.getElem?_eq_getElem hj)) h
  · exact ⟨i0, q0, by omega, h2, h3, h4⟩
theorem has_app2 {A L : List Chunk} {w : World} (hL : Has L w) (hA : Has A w) (hap : ∀ g ∈ feet A, g ∉ feet L) : Has (A ++ L) w :=
  ⟨fun c hc => (List.mem_append.1 hc).elim (hA.ok c) (hL.ok c), by
    rw [feet_append]
    exact List.nodup_append.2 ⟨hA.apart, hL.apart, fun a1 h1 b1 h2 e => hap a1 h1 (e ▸ h2)⟩⟩
set_option maxRecDepth 100000 in
set_option maxHeartbeats 4000000 in
theorem sopen_at (gd gw gm : Nat) (D : Dk) (hgo : D.gone = false) (hn6 : D.secs.length ≤ 16384) (hrg : RG D) (n6 : 6 ≤ D.secs.length) (half : Nat) (hhf : half = D.secs.length / 2) (at_ : Bool) (fra frb : Nat) (hfr : (at_ = false ∧ fra = 0 ∧ frb = half) ∨ (at_ = true ∧ fra = half ∧ frb = 0)) (ha hb : Hd) (bsa bsb : List Int) (hla : LogAt D fra half ha bsa) (hlb : LogAt D frb half hb bsb) (hka : HdK ha) (hkb : HdK hb) (hge : genH hb ≤ genH ha ∧ (at_ = true → genH hb < genH ha)) (w : World) (hD : Has (DskL gd gw gm D) w) :
    CA Tryz.prog 8 [.pointer (some ⟨gd, 0, none⟩)] w (Ret (fun z : Nat × (Nat × Option Addr × Nat) × (Nat × Option Addr × Nat) => .tuple #[.pointer (some ⟨z.1, 0, none⟩), .int .i64 0]) [] (fun z => StL z.1 at_ z.2.1.1 z.2.1.2.1 z.2.1.2.2 ha bsa fra z.2.2.1 z.2.2.2.1 z.2.2.2.2 hb bsb frb ((half - 2) * 64) gd) (fun z => BK z.2.1.2.1 z.2.1.2.2 bsa.length ∧ BK z.2.2.2.1 z.2.2.2.2 bsb.length) w) := by
  rcases hfr with ⟨rfl, rfl, rfl⟩ | ⟨rfl, rfl, rfl⟩
  · exact sopen_0 gd gw gm D hgo hn6 hrg n6 frb hhf ha hb bsa bsb hla hlb hka hkb (by omega) w hD
  · exact sopen_1 gd gw gm D hgo hn6 hrg n6 fra hhf hb ha bsb bsa hlb hla hkb hka (hge.2 rfl) w hD
structure PSt where
  gs : Nat
  at_ : Bool
  ga : Nat
  ba : Option Addr
  ca : Nat
  gb : Nat
  bb : Option Addr
  cb : Nat
  D : Dk
  ha : Hd
  hb : Hd
  bsa : List Int
  bsb : List Int
  fra : Nat
  frb : Nat
  aw : Option Addr
  cw : Nat
  ws : List CPrt
  W : List Chunk
  gen : Nat
structure SI (w : World) (nd half i : Nat) (z : PSt) : Prop where
  J : SJ nd half i z.D z.at_ z.fra z.frb z.ha z.hb z.bsa z.bsb (z.ws.map (·.xs)) z.gen
  ka : BK z.ba z.ca z.bsa.length
  kb : BK z.bb z.cb z.bsb.length
  ns : w.heap.size ≤ z.gs
  na : w.heap.size ≤ z.ga
  nb : w.heap.size ≤ z.gb
  nba : ∀ g, z.ba = some ⟨g, 0, none⟩ → w.heap.size ≤ g
  nbb : ∀ g, z.bb = some ⟨g, 0, none⟩ → w.heap.size ≤ g
  wo : ∀ w', Ch [] w w' → Has z.W w' → SlE CPrt.v w' z.aw z.ws
  wk : ∀ p ∈ z.ws, p.Ok w
  wl : z.ws.length ≤ 30 * i
theorem SI.mono {w : World} {nd half i : Nat} {z : PSt} (h : SI w nd half i z) : SI w nd half (i + 1) z := ⟨h.J.mono, h.ka, h.kb, h.ns, h.na, h.nb, h.nba, h.nbb, h.wo, h.wk, by have := h.wl; omega⟩
theorem log_new {w : World} {gl gd gw gm fr room : Nat} {h : Hd} {b : Option Addr} {cap : Nat} {xs : List Int} {D : Dk} (hk : BK b cap xs.length) (hn : ∀ g, b = some ⟨g, 0, none⟩ → w.heap.size ≤ g) (hl : w.heap.size ≤ gl) (hd : w.heap.size ≤ gd ∧ w.heap.size ≤ gw ∧ w.heap.size ≤ gm) : ∀ g ∈ feet (LogL gl gd gw gm fr room h b cap xs D), w.heap.size ≤ g := by
  intro g hg
  simp only [feet, List.flatMap_cons, List.mem_append] at hg
  rcases hg with h9 | h9
  · exact (bk_new (X := []) hk hn g h9).elim (fun h => by simp at h) id
  · simp [Chunk.foot] at h9; omega
end Go.Proofs.YtgmghkakiocmjaaGreatDoor
namespace Go.Proofs.YtgmghkakiocmjaaGreatDoor
open Go Go.RowKit
set_option linter.unusedVariables false
set_option linter.unusedSimpArgs false
theorem size_sets (g : Nat) : ∀ (o : Nat) (vs : List Value) (w : World), (w.setCells g o vs).heap.size = w.heap.size
  | o, [], w => rfl
  | o, v :: vs, w => by
    show ((w.setCell ⟨g, o, none⟩ v).setCells g (o + 1) vs).heap.size = _
    rw [size_sets g (o + 1) vs]
    simp [World.setCell]
section
variable {P : Program} {n m d : Nat} {T : List (Nat × Value)} {X : List Nat} {w0 : World} {L L' : List Chunk} {K : Act → World → Prop} {Q : Exit → Act → World → Prop} {x y : Operand} {ty t e : TypeId} {pos : String} {af : Array Edge} {gu : Option (Nat × Bool)}
theorem e_appI {α : Type} (enc : α → Value) (zs ys : List α) {g : Nat} {q : Addr} {len cap bytes len2 cap2 : Nat} {zz : Value} (hx : ev T x = some (.slice (some ⟨g, 0, none⟩) len cap)) (hy : ev T y = some (.slice (some q) len2 cap2)) (hd : Nat.blt d n = true)
    [hu : UT P t (.slice e)] [hs : SzT P e 1] [hb : ByT P e bytes] [hz : ZrT P e #[zz]] (hr : Rm (.sl (some ⟨g, 0, none⟩) cap e 1 (zs.map enc)) L L') (hv : RdN X w0 L q (ys.map enc))
    (hlen : zs.length = len) (hlen2 : ys.length = len2) (hone : allOne (ys.map enc) = true) (hroom : len + len2 ≤ cap) (hcap : cap ≤ 9223372036854775807) (hby : (len + len2) * bytes ≤ 140737488355328) (hg : g ∈ X ∨ w0.heap.size ≤ g)
    (h : ∀ a w, SS n ((d, .slice (some ⟨g, 0, none⟩) (len + len2) cap) :: T) X w0 m (.sl (some ⟨g, 0, none⟩) cap e 1 ((zs ++ ys).map enc) :: L') a w → K a w) :
    ∀ a w, SS n T X w0 m L a w → OW P ⟨some d, .call { callee := .builtin .append, args := #[x, y], argTypes := #[t, t] }, ty, pos, af, gu⟩ K Q a w := by
  intro a w hs'
  obtain ⟨hA, hC, rfl, hL⟩ := hs'
  obtain ⟨it, z, h1, h2, h3⟩ := zeroOf_spec hz.h
  have hs1 := hs.h
  have hb1 := hb.h
  simp only [h1, Option.map_some, Option.some.injEq] at hs1 hb1
  have hok := hL.ok _ hr.mem
  simp only [Chunk.ok] at hok
  rcases hok with ⟨h9, _⟩ | ⟨g', cs, hgg, h4, h5, h6⟩
  · cases h9
  simp only [Option.some.injEq, Addr.mk.injEq, true_and, and_true] at hgg
  subst hgg
  have hown : w.ownsRow 0 e 1 (.slice (some ⟨g, 0, none⟩) len cap) len (zs.map enc) :=
    ⟨by simp [hlen], .inr ⟨g, cap, cs, rfl, Nat.zero_le _, h4, by omega, by simpa [maxLen] using hcap, h5, by rw [← hlen, Nat.mul_one, ← List.length_map (f := enc)]; exact h6⟩⟩
  obtain ⟨v', w', hrun, ho', hgr, _, hob⟩ := run_append_own_at (P := P) w 0 t ty e it z 1 bytes hu.h h1 h2 hs1 hb1 (by rw [h3]; rfl) (by omega) (.slice (some ⟨g, 0, none⟩) len cap) len (zs.map enc) hown q len2 cap2 (ys.map enc) (by simp [hlen2]) (hv.cells hC hL) (allOne_mem hone) (by simp only [maxLen]; omega) hby (Nat.zero_le _)
  have hsrc : Src P it.size t (.slice (some q) len2 cap2) len2 (ys.map enc) w := by
    rw [hs1]
    exact Src.ofVw hu.h (.inr ⟨q, rfl, hv⟩) (by simp [hlen2]) (fun h => by cases h) (allOne_mem hone) hC hL
  have hcell : ∀ j, j < len2 → ∃ v, cs[len + j]? = some v := fun j hj => ⟨_, Array.getElem?_eq_getElem (by omega)⟩
  have hrun2 := run_append_room_src (P := P) w t t ty e it hu.h h1 g 0 len cap (.slice (some q) len2 cap2) len2 (ys.map enc) hsrc hroom
    (fun j hj => by
      rw [List.length_map, hlen2] at hj
      obtain ⟨v, hv9⟩ := hcell j hj
      have : w.cell? ⟨g, 0 + len * it.size + j, none⟩ = some v := by rw [hs1, Nat.mul_one, Nat.zero_add]; simp [World.cell?, h4, hv9]
      rw [this]; rfl)
    (fun j hj => by simp [World.frozen?, h4])
  have hv' : v' = .slice (some ⟨g, 0, none⟩) (len + len2) cap := by
    have h9 := hrun.symm.trans hrun2
    injection h9
  subst hv'
  have hC' : Ch X w0 w' := hC.call (Y := [g]) ⟨hgr.os, hgr.tape, hgr.output, hgr.size, fun k hk hne => hgr.block k hk (by
    intro e1
    apply hne
    simp [Value.ownBlock] at e1; simp [e1])⟩ (by intro k hk; simp at hk; subst hk; exact hg)
  have hL2 : Has L' w' := (hL.sub hr.sub).congr fun k hk => hgr.block k ((hL.sub hr.sub).lt k hk) fun e1 => by
    simp [Value.ownBlock] at e1; exact hr.apart hL k (by simp [Chunk.foot, e1]) hk
  have hsz : w'.heap.size = w.heap.size := by
    have h9 := hrun.symm.trans hrun2
    injection h9 with _ h10
    rw [h10]; exact (size_sets _ _ _ _)
  refine wp_value (w' := w') (v := .slice (some ⟨g, 0, none⟩) (len + len2) cap) ?_ (h _ _ ⟨hA.put _ hd, hC', hsz, ?_⟩)
  · simp only [execOp, resolve, Sem.run_bind, Sem.run_pure, Result.andThen_ok, invoke, List.map_toArray, List.map_cons, List.map_nil, hA.eval hx, hA.eval hy, builtin, hrun]
  · refine hL2.cons ?_ (fun g' hg' hm => hr.apart hL g' (by simpa [Chunk.foot] using hg') hm) (foot_nodup _)
    rcases ho'.2 with ⟨h9, h0⟩ | ⟨g', cap', cur, hv9, _, hc, hn, hm, hcs, htk⟩
    · cases h9
    · simp only [Value.slice.injEq, Option.some.injEq, Addr.mk.injEq, true_and, and_true] at hv9
      obtain ⟨rfl, rfl⟩ := hv9
      refine .inr ⟨g, cur, rfl, hc, hcs, ?_⟩
      rw [List.map_append, ho'.1]; exact htk
end
end Go.Proofs.YtgmghkakiocmjaaGreatDoor
namespace Go.Proofs.YtgmghkakiocmjaaGreatDoor
open Go Go.RowKit
set_option linter.unusedVariables false
set_option linter.unusedSimpArgs false
theorem take_app (a b : List Int) : ((a ++ b).map (Value.int .u8)).take a.length = a.map (Value.int .u8) := by
  rw [List.map_append, ← List.length_map (f := (Value.int .u8)), List.take_left]
set_option maxRecDepth 100000 in
set_option maxHeartbeats 4000000 in
theorem append_1I {w : World} (g0 : Nat) (gl gd gw gm fr room : Nat) (h h' : Hd) (cap0 : Nat) (bs : List Int) (D : Dk) (nd : Nat) (hok : D.OK nd) (ho : OS (feet (LogL gl gd gw gm fr room h (some ⟨g0, 0, none⟩) cap0 bs D)) w.heap.size (some ⟨g0, 0, none⟩) cap0 bs.length) (hlr : bs.length ≤ room) (hroom : room ≤ 1100000) (hfit : fr + 2 + (room + 63) / 64 ≤ nd) (hser : 0 ≤ h.ser ∧ h.ser < 4611686018427387904) (p : Nat) (hp : (p : Int) = h'.ser % 2) (h1 : h'.ser = h.ser + 1) (a : Option Addr) (len cap : Nat) (ys : List Int) (h2 : h'.cnt = (bs ++ ys).length) (hyl : ys.length = len) (hy0 : 0 < len) (hfr : bs.length + len ≤ room) (hys : SlE (Value.int .u8) w a ys) (hyx : ∀ g o, a = some ⟨g, o, none⟩ → g ∉ (feet (LogL gl gd gw gm fr room h (some ⟨g0, 0, none⟩) cap0 bs D))) (r1 : Bool × Dk) (hr1e : r1 = wrAll (rmW fr (bs ++ ys) (((bs ++ ys).length + 63) / 64 - bs.length / 64) (bs.length / 64)) D) (hr1 : r1.1 = false) (hk : bs.length + len ≤ cap0) (hL0 : Has (LogL gl gd gw gm fr room h (some ⟨g0, 0, none⟩) cap0 bs D) w) :
    CA Tryz.prog 29 [.pointer (some ⟨gl, 0, none⟩), .slice a len cap, .agg (noteE h'.nt).toArray] w (Ret (fun _ : Unit => .int .i64 5) (feet (LogL gl gd gw gm fr room h (some ⟨g0, 0, none⟩) cap0 bs D)) (fun _ => .sl (some ⟨g0, 0, none⟩) cap0 5 1 ((bs).map (Value.int .u8)) :: LgB gl gd fr room h (.slice (some ⟨g0, 0, none⟩) bs.length cap0) true :: DskL gd gw gm r1.2) (fun _ => True) w) := by
  have hnd := hok.n9
  have hbl : bs.length + len = (bs ++ ys).length := by simp [hyl]
  obtain ⟨ga, oa, rfl, hOa⟩ := hys.get (i := 0) (by omega)
  have hrd := fun L => RdN.old (L := L) (w0 := w) hOa (hyx ga oa rfl)
  have hok1 : ∀ r1, r1 = wrAll (rmW fr (bs ++ ys) (((bs ++ ys).length + 63) / 64 - bs.length / 64) (bs.length / 64)) D → r1.2.OK nd := fun r1 e => by
    rw [e]
    exact wrAll_OK _ _ (fun e he => by have := rmW_lt _ _ e he; omega) hok
  have hg0 : g0 ∈ (feet (LogL gl gd gw gm fr room h (some ⟨g0, 0, none⟩) cap0 bs D)) ∨ w.heap.size ≤ g0 := .inl (by simp [feet, Chunk.foot])
  have ho2 : OS (feet (LogL gl gd gw gm fr room h (some ⟨g0, 0, none⟩) cap0 bs D)) w.heap.size (some ⟨g0, 0, none⟩) cap0 (bs ++ ys).length := ⟨by omega, by have := ho.max; omega, .inr ⟨_, rfl⟩, by intro g hg; simp [Chunk.foot] at hg; rw [hg]; exact hg0⟩
  skip
  refine enter (L := (LogL gl gd gw gm fr room h (some ⟨g0, 0, none⟩) cap0 bs D)) (X := (feet (LogL gl gd gw gm fr room h (some ⟨g0, 0, none⟩) cap0 bs D))) Tryz.func29 rfl Tryz.ntmps29 rfl rfl hL0 ?_
  repeat (first | refine c_seq ?_ | (refine c_region (id := 0) ?_; refine se ?_; refine eb ?_; refine sq qa ?_; refine l_nil ?_) | (refine c_region (id := 1) ?_; refine sq qm ?_; refine se ?_; refine ecp rfl rfl (fun w hC hm hL => by exact ready_y gl gd fr room h (.slice (some ⟨g0, 0, none⟩) bs.length cap0) hser w (hL.sub (by (repeat (first | exact List.nil_sublist _ | exact List.Sublist.slnil | apply List.Sublist.cons_cons | exact List.Sublist.refl _ | apply List.Sublist.cons))))) ?_; intro m' hm'; refine sq qa ?_; refine l_nil ?_) | (refine c_region (id := 2) ?_; refine sq qm ?_; refine sq (by first | exact dneqt | exact dneqf) ?_; refine l_nil ?_) | (refine c_region (id := 4) ?_; refine sq qm ?_; refine sq qls ?_; refine sq qm ?_; refine se ?_; refine ecp rfl rfl (fun w hC hm hL => by exact room_c gl gd fr room h (some ⟨g0, 0, none⟩) bs.length cap0 false ⟨hlr, by omega⟩ w (hL.sub (by (repeat (first | exact List.nil_sublist _ | exact List.Sublist.slnil | apply List.Sublist.cons_cons | exact List.Sublist.refl _ | apply List.Sublist.cons))))) ?_; intro m' hm'; refine sq (by first | exact dgtrt | exact dgtrf) ?_; refine l_nil ?_) | (refine c_region (id := 6) ?_; refine sq qm ?_; refine sq qls ?_; refine sq (by first | exact deqlt | exact deqlf) ?_; refine l_nil ?_) | (refine c_region (id := 8) ?_; refine sq qm ?_; refine sq qn ?_; refine sq qf ?_; refine sq ql ?_; refine sq qm ?_; refine se ?_; refine e_appI (Value.int .u8) bs ys rfl rfl rfl (by (repeat (first | exact Rm.here | apply Rm.there))) (hrd _) rfl hyl (allOne_u8L _) hk (by have := ho.max; omega) (by omega) hg0 ?_; refine sq qa ?_; refine l_nil ?_) | refine n_then ?_ | refine c_block ?_ | refine c_skip ?_ | refine n_block ?_ | refine c_exit ?_ | refine n_then_exit ?_ | refine n_block_eq ?_ | refine n_block_ne rfl ?_ | refine c_ret ?_ | refine n_then_ret ?_ | refine n_block_ret ?_ | refine c_cond_t rfl ?_ | refine c_cond_f rfl ?_ | refine r_succ ?_ )
  rw [hbl] at ⊢
  repeat (first | refine c_seq ?_ | (refine c_region (id := 9) ?_; refine sq qm ?_; refine sq qm ?_; refine se ?_; refine e_callX (DskL gd gw gm D) _ rfl rfl (by kernel_rfl) rfl (by (repeat (first | exact Sp.nil | (apply Sp.cons; focus (repeat (first | exact Rm.here | apply Rm.there)))))) (fun w hC hm hA hL hap => by have h9 := wroom_c gl gd gw gm fr room h (some ⟨g0, 0, none⟩) bs.length cap0 false D nd hok (some ⟨g0, 0, none⟩) (bs ++ ys).length cap0 (bs ++ ys) rfl ho2.le (by omega) (by omega) (by omega) w (SlE.own hL (by (repeat (first | exact List.Mem.head _ | apply List.Mem.tail))) ho2) (apart_sl (by (repeat (first | exact List.Mem.head _ | apply List.Mem.tail))) hap) ((has_app hL hA hap).sub (by (repeat (first | exact List.nil_sublist _ | exact List.Sublist.slnil | apply List.Sublist.cons_cons | exact List.Sublist.refl _ | apply List.Sublist.cons)))); rw [← hr1e, hr1, erC_f] at h9; exact h9) (by intro g hg; exact .inl (by simp [feet, Chunk.foot] at hg ⊢; rcases hg with h | h | h <;> simp [h])) (fun _ => rfl) ?_; intro _ m5 _ _ hm5; refine sq qa ?_; refine l_nil ?_) | (refine c_region (id := 10) ?_; refine sq qm ?_; refine sq (by first | exact dneqt | exact dneqf) ?_; refine l_nil ?_) | (refine c_region (id := 11) ?_; refine sq qm ?_; refine se ?_; refine e_call_upd rfl rfl (by kernel_rfl) rfl (fun w hC hm hL => by exact end_c gl gd fr room h (.slice (some ⟨g0, 0, none⟩) bs.length cap0) false w (hL.sub (by (repeat (first | exact List.nil_sublist _ | exact List.Sublist.slnil | apply List.Sublist.cons_cons | exact List.Sublist.refl _ | apply List.Sublist.cons))))) (by (repeat (first | exact Pl.here | apply Pl.there))) (.inl (by simp [feet, Chunk.foot])) ?_; intro m' hm'; refine sq qa ?_; refine l_nil ?_) | refine n_then ?_ | refine c_block ?_ | refine c_skip ?_ | refine n_block ?_ | refine c_exit ?_ | refine n_then_exit ?_ | refine n_block_eq ?_ | refine n_block_ne rfl ?_ | refine c_ret ?_ | refine n_then_ret ?_ | refine n_block_ret ?_ | refine c_cond_t rfl ?_ | refine c_cond_f rfl ?_ | refine r_succ ?_ )
  refine fgs (A := (.sl (some ⟨g0, 0, none⟩) cap0 5 1 ((bs ++ ys).map (Value.int .u8)) :: LgB gl gd fr room h (.slice (some ⟨g0, 0, none⟩) bs.length cap0) true :: DskL gd gw gm r1.2)) (by (repeat (first | exact Sp.nil | (apply Sp.cons; focus (repeat (first | exact Rm.here | apply Rm.there)))))) ?_
  refine wk_sl bs.length .here ?_
  rw [take_app]
  (first | apply r_ret () | apply r_end ()); exact rfl; exact rfl; exact (.tmp rfl .nil); exact rfl; exact (List.Sublist.refl _); exact (new_sl (fun g hg => .inl (by simp [Chunk.foot] at hg; simp [feet, Chunk.foot, hg])) (by intro g hg; exact .inl (by simp [feet, Chunk.foot] at hg ⊢; rcases hg with h | h | h | h <;> simp [h]))); exact trivial
set_option maxRecDepth 100000 in
set_option maxHeartbeats 4000000 in
theorem append_2I {w : World} (g0 : Nat) (gl gd gw gm fr room : Nat) (h h' : Hd) (cap0 : Nat) (bs : List Int) (D : Dk) (nd : Nat) (hok : D.OK nd) (ho : OS (feet (LogL gl gd gw gm fr room h (some ⟨g0, 0, none⟩) cap0 bs D)) w.heap.size (some ⟨g0, 0, none⟩) cap0 bs.length) (hlr : bs.length ≤ room) (hroom : room ≤ 1100000) (hfit : fr + 2 + (room + 63) / 64 ≤ nd) (hser : 0 ≤ h.ser ∧ h.ser < 4611686018427387904) (p : Nat) (hp : (p : Int) = h'.ser % 2) (h1 : h'.ser = h.ser + 1) (a : Option Addr) (len cap : Nat) (ys : List Int) (h2 : h'.cnt = (bs ++ ys).length) (hyl : ys.length = len) (hy0 : 0 < len) (hfr : bs.length + len ≤ room) (hys : SlE (Value.int .u8) w a ys) (hyx : ∀ g o, a = some ⟨g, o, none⟩ → g ∉ (feet (LogL gl gd gw gm fr room h (some ⟨g0, 0, none⟩) cap0 bs D))) (r1 : Bool × Dk) (hr1e : r1 = wrAll (rmW fr (bs ++ ys) (((bs ++ ys).length + 63) / 64 - bs.length / 64) (bs.length / 64)) D) (hr1 : r1.1 = true) (r2 : Bool × Dk) (hre : r2 = wrAll [(fr + p, secH h')] r1.2) (hrt : r2.1 = false) (hk : bs.length + len ≤ cap0) (hL0 : Has (LogL gl gd gw gm fr room h (some ⟨g0, 0, none⟩) cap0 bs D) w) :
    CA Tryz.prog 29 [.pointer (some ⟨gl, 0, none⟩), .slice a len cap, .agg (noteE h'.nt).toArray] w (Ret (fun _ : Unit => .int .i64 5) (feet (LogL gl gd gw gm fr room h (some ⟨g0, 0, none⟩) cap0 bs D)) (fun _ => .sl (some ⟨g0, 0, none⟩) cap0 5 1 ((bs).map (Value.int .u8)) :: LgB gl gd fr room h (.slice (some ⟨g0, 0, none⟩) bs.length cap0) true :: DskL gd gw gm r2.2) (fun _ => True) w) := by
  have hnd := hok.n9
  have hbl : bs.length + len = (bs ++ ys).length := by simp [hyl]
  obtain ⟨ga, oa, rfl, hOa⟩ := hys.get (i := 0) (by omega)
  have hrd := fun L => RdN.old (L := L) (w0 := w) hOa (hyx ga oa rfl)
  have hok1 : ∀ r1, r1 = wrAll (rmW fr (bs ++ ys) (((bs ++ ys).length + 63) / 64 - bs.length / 64) (bs.length / 64)) D → r1.2.OK nd := fun r1 e => by
    rw [e]
    exact wrAll_OK _ _ (fun e he => by have := rmW_lt _ _ e he; omega) hok
  have hg0 : g0 ∈ (feet (LogL gl gd gw gm fr room h (some ⟨g0, 0, none⟩) cap0 bs D)) ∨ w.heap.size ≤ g0 := .inl (by simp [feet, Chunk.foot])
  have ho2 : OS (feet (LogL gl gd gw gm fr room h (some ⟨g0, 0, none⟩) cap0 bs D)) w.heap.size (some ⟨g0, 0, none⟩) cap0 (bs ++ ys).length := ⟨by omega, by have := ho.max; omega, .inr ⟨_, rfl⟩, by intro g hg; simp [Chunk.foot] at hg; rw [hg]; exact hg0⟩
  skip
  refine enter (L := (LogL gl gd gw gm fr room h (some ⟨g0, 0, none⟩) cap0 bs D)) (X := (feet (LogL gl gd gw gm fr room h (some ⟨g0, 0, none⟩) cap0 bs D))) Tryz.func29 rfl Tryz.ntmps29 rfl rfl hL0 ?_
  repeat (first | refine c_seq ?_ | (refine c_region (id := 0) ?_; refine se ?_; refine eb ?_; refine sq qa ?_; refine l_nil ?_) | (refine c_region (id := 1) ?_; refine sq qm ?_; refine se ?_; refine ecp rfl rfl (fun w hC hm hL => by exact ready_y gl gd fr room h (.slice (some ⟨g0, 0, none⟩) bs.length cap0) hser w (hL.sub (by (repeat (first | exact List.nil_sublist _ | exact List.Sublist.slnil | apply List.Sublist.cons_cons | exact List.Sublist.refl _ | apply List.Sublist.cons))))) ?_; intro m' hm'; refine sq qa ?_; refine l_nil ?_) | (refine c_region (id := 2) ?_; refine sq qm ?_; refine sq (by first | exact dneqt | exact dneqf) ?_; refine l_nil ?_) | (refine c_region (id := 4) ?_; refine sq qm ?_; refine sq qls ?_; refine sq qm ?_; refine se ?_; refine ecp rfl rfl (fun w hC hm hL => by exact room_c gl gd fr room h (some ⟨g0, 0, none⟩) bs.length cap0 false ⟨hlr, by omega⟩ w (hL.sub (by (repeat (first | exact List.nil_sublist _ | exact List.Sublist.slnil | apply List.Sublist.cons_cons | exact List.Sublist.refl _ | apply List.Sublist.cons))))) ?_; intro m' hm'; refine sq (by first | exact dgtrt | exact dgtrf) ?_; refine l_nil ?_) | (refine c_region (id := 6) ?_; refine sq qm ?_; refine sq qls ?_; refine sq (by first | exact deqlt | exact deqlf) ?_; refine l_nil ?_) | (refine c_region (id := 8) ?_; refine sq qm ?_; refine sq qn ?_; refine sq qf ?_; refine sq ql ?_; refine sq qm ?_; refine se ?_; refine e_appI (Value.int .u8) bs ys rfl rfl rfl (by (repeat (first | exact Rm.here | apply Rm.there))) (hrd _) rfl hyl (allOne_u8L _) hk (by have := ho.max; omega) (by omega) hg0 ?_; refine sq qa ?_; refine l_nil ?_) | refine n_then ?_ | refine c_block ?_ | refine c_skip ?_ | refine n_block ?_ | refine c_exit ?_ | refine n_then_exit ?_ | refine n_block_eq ?_ | refine n_block_ne rfl ?_ | refine c_ret ?_ | refine n_then_ret ?_ | refine n_block_ret ?_ | refine c_cond_t rfl ?_ | refine c_cond_f rfl ?_ | refine r_succ ?_ )
  rw [hbl] at ⊢
  repeat (first | refine c_seq ?_ | (refine c_region (id := 9) ?_; refine sq qm ?_; refine sq qm ?_; refine se ?_; refine e_callX (DskL gd gw gm D) _ rfl rfl (by kernel_rfl) rfl (by (repeat (first | exact Sp.nil | (apply Sp.cons; focus (repeat (first | exact Rm.here | apply Rm.there)))))) (fun w hC hm hA hL hap => by have h9 := wroom_c gl gd gw gm fr room h (some ⟨g0, 0, none⟩) bs.length cap0 false D nd hok (some ⟨g0, 0, none⟩) (bs ++ ys).length cap0 (bs ++ ys) rfl ho2.le (by omega) (by omega) (by omega) w (SlE.own hL (by (repeat (first | exact List.Mem.head _ | apply List.Mem.tail))) ho2) (apart_sl (by (repeat (first | exact List.Mem.head _ | apply List.Mem.tail))) hap) ((has_app hL hA hap).sub (by (repeat (first | exact List.nil_sublist _ | exact List.Sublist.slnil | apply List.Sublist.cons_cons | exact List.Sublist.refl _ | apply List.Sublist.cons)))); rw [← hr1e, hr1, erC_t] at h9; exact h9) (by intro g hg; exact .inl (by simp [feet, Chunk.foot] at hg ⊢; rcases hg with h | h | h <;> simp [h])) (fun _ => rfl) ?_; intro _ m5 _ _ hm5; refine sq qa ?_; refine l_nil ?_) | (refine c_region (id := 10) ?_; refine sq qm ?_; refine sq (by first | exact dneqt | exact dneqf) ?_; refine l_nil ?_) | (refine c_region (id := 12) ?_; refine sq qm ?_; refine sq qm ?_; refine sq (by exact qlb (hl := by rfl)) ?_; refine se ?_; refine e_callX (LgB gl gd fr room h (.slice (some ⟨g0, 0, none⟩) bs.length cap0) false :: DskL gd gw gm r1.2) _ rfl rfl (by kernel_rfl) rfl (by (repeat (first | exact Sp.nil | (apply Sp.cons; focus (repeat (first | exact Rm.here | apply Rm.there)))))) (fun w hC hm hA hL hap => by exact become_n gl gd gw gm fr room h h' (.slice (some ⟨g0, 0, none⟩) bs.length cap0) r1.2 nd (hok1 r1 hr1e) (some ⟨g0, 0, none⟩) (bs ++ ys).length cap0 (by omega) hser h1 h2 p hp (by omega) r2 hre hrt w hA) (by intro g hg; exact .inl (by simp [feet, Chunk.foot] at hg ⊢; rcases hg with h | h | h | h <;> simp [h])) (fun _ => rfl) ?_; intro _ m7 _ _ hm7; refine sq qa ?_; refine l_nil ?_) | refine n_then ?_ | refine c_block ?_ | refine c_skip ?_ | refine n_block ?_ | refine c_exit ?_ | refine n_then_exit ?_ | refine n_block_eq ?_ | refine n_block_ne rfl ?_ | refine c_ret ?_ | refine n_then_ret ?_ | refine n_block_ret ?_ | refine c_cond_t rfl ?_ | refine c_cond_f rfl ?_ | refine r_succ ?_ )
  refine fgs (A := (.sl (some ⟨g0, 0, none⟩) cap0 5 1 ((bs ++ ys).map (Value.int .u8)) :: LgB gl gd fr room h (.slice (some ⟨g0, 0, none⟩) bs.length cap0) true :: DskL gd gw gm r2.2)) (by (repeat (first | exact Sp.nil | (apply Sp.cons; focus (repeat (first | exact Rm.here | apply Rm.there)))))) ?_
  refine wk_sl bs.length .here ?_
  rw [take_app]
  (first | apply r_ret () | apply r_end ()); exact rfl; exact rfl; exact (.tmp rfl .nil); exact rfl; exact (List.Sublist.refl _); exact (new_sl (fun g hg => .inl (by simp [Chunk.foot] at hg; simp [feet, Chunk.foot, hg])) (by intro g hg; exact .inl (by simp [feet, Chunk.foot] at hg ⊢; rcases hg with h | h | h | h <;> simp [h]))); exact trivial
set_option maxRecDepth 100000 in
set_option maxHeartbeats 4000000 in
theorem append_1G {w : World} (g0 : Nat) (gl gd gw gm fr room : Nat) (h h' : Hd) (cap0 : Nat) (bs : List Int) (D : Dk) (nd : Nat) (hok : D.OK nd) (ho : OS (feet (LogL gl gd gw gm fr room h (some ⟨g0, 0, none⟩) cap0 bs D)) w.heap.size (some ⟨g0, 0, none⟩) cap0 bs.length) (hlr : bs.length ≤ room) (hroom : room ≤ 1100000) (hfit : fr + 2 + (room + 63) / 64 ≤ nd) (hser : 0 ≤ h.ser ∧ h.ser < 4611686018427387904) (p : Nat) (hp : (p : Int) = h'.ser % 2) (h1 : h'.ser = h.ser + 1) (a : Option Addr) (len cap : Nat) (ys : List Int) (h2 : h'.cnt = (bs ++ ys).length) (hyl : ys.length = len) (hy0 : 0 < len) (hfr : bs.length + len ≤ room) (hys : SlE (Value.int .u8) w a ys) (hyx : ∀ g o, a = some ⟨g, o, none⟩ → g ∉ (feet (LogL gl gd gw gm fr room h (some ⟨g0, 0, none⟩) cap0 bs D))) (r1 : Bool × Dk) (hr1e : r1 = wrAll (rmW fr (bs ++ ys) (((bs ++ ys).length + 63) / 64 - bs.length / 64) (bs.length / 64)) D) (hr1 : r1.1 = false) (hk : cap0 < bs.length + len) (hL0 : Has (LogL gl gd gw gm fr room h (some ⟨g0, 0, none⟩) cap0 bs D) w) :
    CA Tryz.prog 29 [.pointer (some ⟨gl, 0, none⟩), .slice a len cap, .agg (noteE h'.nt).toArray] w (Ret (fun _ : Unit => .int .i64 5) (feet (LogL gl gd gw gm fr room h (some ⟨g0, 0, none⟩) cap0 bs D)) (fun _ => .sl (some ⟨g0, 0, none⟩) cap0 5 1 ((bs).map (Value.int .u8)) :: LgB gl gd fr room h (.slice (some ⟨g0, 0, none⟩) bs.length cap0) true :: DskL gd gw gm r1.2) (fun _ => True) w) := by
  have hnd := hok.n9
  have hbl : bs.length + len = (bs ++ ys).length := by simp [hyl]
  obtain ⟨ga, oa, rfl, hOa⟩ := hys.get (i := 0) (by omega)
  have hrd := fun L => RdN.old (L := L) (w0 := w) hOa (hyx ga oa rfl)
  have hok1 : ∀ r1, r1 = wrAll (rmW fr (bs ++ ys) (((bs ++ ys).length + 63) / 64 - bs.length / 64) (bs.length / 64)) D → r1.2.OK nd := fun r1 e => by
    rw [e]
    exact wrAll_OK _ _ (fun e he => by have := rmW_lt _ _ e he; omega) hok
  
  skip
  refine enter (L := (LogL gl gd gw gm fr room h (some ⟨g0, 0, none⟩) cap0 bs D)) (X := (feet (LogL gl gd gw gm fr room h (some ⟨g0, 0, none⟩) cap0 bs D))) Tryz.func29 rfl Tryz.ntmps29 rfl rfl hL0 ?_
  repeat (first | refine c_seq ?_ | (refine c_region (id := 0) ?_; refine se ?_; refine eb ?_; refine sq qa ?_; refine l_nil ?_) | (refine c_region (id := 1) ?_; refine sq qm ?_; refine se ?_; refine ecp rfl rfl (fun w hC hm hL => by exact ready_y gl gd fr room h (.slice (some ⟨g0, 0, none⟩) bs.length cap0) hser w (hL.sub (by (repeat (first | exact List.nil_sublist _ | exact List.Sublist.slnil | apply List.Sublist.cons_cons | exact List.Sublist.refl _ | apply List.Sublist.cons))))) ?_; intro m' hm'; refine sq qa ?_; refine l_nil ?_) | (refine c_region (id := 2) ?_; refine sq qm ?_; refine sq (by first | exact dneqt | exact dneqf) ?_; refine l_nil ?_) | (refine c_region (id := 4) ?_; refine sq qm ?_; refine sq qls ?_; refine sq qm ?_; refine se ?_; refine ecp rfl rfl (fun w hC hm hL => by exact room_c gl gd fr room h (some ⟨g0, 0, none⟩) bs.length cap0 false ⟨hlr, by omega⟩ w (hL.sub (by (repeat (first | exact List.nil_sublist _ | exact List.Sublist.slnil | apply List.Sublist.cons_cons | exact List.Sublist.refl _ | apply List.Sublist.cons))))) ?_; intro m' hm'; refine sq (by first | exact dgtrt | exact dgtrf) ?_; refine l_nil ?_) | (refine c_region (id := 6) ?_; refine sq qm ?_; refine sq qls ?_; refine sq (by first | exact deqlt | exact deqlf) ?_; refine l_nil ?_) | (refine c_region (id := 8) ?_; refine sq qm ?_; refine sq qn ?_; refine sq qf ?_; refine sq ql ?_; refine sq qm ?_; refine se ?_; refine e_appG (Value.int .u8) bs ys rfl rfl rfl (RdN.sl (by (repeat (first | exact List.Mem.head _ | apply List.Mem.tail))) (by rw [List.drop_zero, List.take_of_length_le (Nat.le_refl _)])) (hrd _) rfl hyl (allOne_u8L _) hk (by omega) (by omega) ?_; intro cap2 hcp1 hcp2; refine sq qa ?_; refine l_nil ?_) | refine n_then ?_ | refine c_block ?_ | refine c_skip ?_ | refine n_block ?_ | refine c_exit ?_ | refine n_then_exit ?_ | refine n_block_eq ?_ | refine n_block_ne rfl ?_ | refine c_ret ?_ | refine n_then_ret ?_ | refine n_block_ret ?_ | refine c_cond_t rfl ?_ | refine c_cond_f rfl ?_ | refine r_succ ?_ )
  rw [hbl] at hcp1 ⊢
  obtain ⟨mG, hmG⟩ : ∃ mG, mG = m' := ⟨_, rfl⟩
  rw [← hmG]
  obtain ⟨b2, hb2⟩ : ∃ b2, b2 = (some ⟨mG, 0, none⟩ : Option Addr) := ⟨_, rfl⟩
  have ho2 : OS (feet (LogL gl gd gw gm fr room h (some ⟨g0, 0, none⟩) cap0 bs D)) w.heap.size b2 cap2 (bs ++ ys).length := ⟨hcp1, hcp2, .inr ⟨_, hb2⟩, by intro g hg; rw [hb2] at hg; simp [Chunk.foot] at hg; exact .inr (by omega)⟩
  rw [← hb2]
  repeat (first | refine c_seq ?_ | (refine c_region (id := 9) ?_; refine sq qm ?_; refine sq qm ?_; refine se ?_; refine e_callX (DskL gd gw gm D) _ rfl rfl (by kernel_rfl) rfl (by (repeat (first | exact Sp.nil | (apply Sp.cons; focus (repeat (first | exact Rm.here | apply Rm.there)))))) (fun w hC hm hA hL hap => by have h9 := wroom_c gl gd gw gm fr room h (some ⟨g0, 0, none⟩) bs.length cap0 false D nd hok b2 (bs ++ ys).length cap2 (bs ++ ys) rfl ho2.le (by omega) (by omega) (by omega) w (SlE.own hL (by (repeat (first | exact List.Mem.head _ | apply List.Mem.tail))) ho2) (apart_sl (by (repeat (first | exact List.Mem.head _ | apply List.Mem.tail))) hap) ((has_app hL hA hap).sub (by (repeat (first | exact List.nil_sublist _ | exact List.Sublist.slnil | apply List.Sublist.cons_cons | exact List.Sublist.refl _ | apply List.Sublist.cons)))); rw [← hr1e, hr1, erC_f] at h9; exact h9) (by intro g hg; exact .inl (by simp [feet, Chunk.foot] at hg ⊢; rcases hg with h | h | h <;> simp [h])) (fun _ => rfl) ?_; intro _ m5 _ _ hm5; refine sq qa ?_; refine l_nil ?_) | (refine c_region (id := 10) ?_; refine sq qm ?_; refine sq (by first | exact dneqt | exact dneqf) ?_; refine l_nil ?_) | (refine c_region (id := 11) ?_; refine sq qm ?_; refine se ?_; refine e_call_upd rfl rfl (by kernel_rfl) rfl (fun w hC hm hL => by exact end_c gl gd fr room h (.slice (some ⟨g0, 0, none⟩) bs.length cap0) false w (hL.sub (by (repeat (first | exact List.nil_sublist _ | exact List.Sublist.slnil | apply List.Sublist.cons_cons | exact List.Sublist.refl _ | apply List.Sublist.cons))))) (by (repeat (first | exact Pl.here | apply Pl.there))) (.inl (by simp [feet, Chunk.foot])) ?_; intro m' hm'; refine sq qa ?_; refine l_nil ?_) | refine n_then ?_ | refine c_block ?_ | refine c_skip ?_ | refine n_block ?_ | refine c_exit ?_ | refine n_then_exit ?_ | refine n_block_eq ?_ | refine n_block_ne rfl ?_ | refine c_ret ?_ | refine n_then_ret ?_ | refine n_block_ret ?_ | refine c_cond_t rfl ?_ | refine c_cond_f rfl ?_ | refine r_succ ?_ )
  refine fgs (A := (.sl (some ⟨g0, 0, none⟩) cap0 5 1 ((bs).map (Value.int .u8)) :: LgB gl gd fr room h (.slice (some ⟨g0, 0, none⟩) bs.length cap0) true :: DskL gd gw gm r1.2)) (by (repeat (first | exact Sp.nil | (apply Sp.cons; focus (repeat (first | exact Rm.here | apply Rm.there)))))) ?_
  (first | apply r_ret () | apply r_end ()); exact rfl; exact rfl; exact (.tmp rfl .nil); exact rfl; exact (List.Sublist.refl _); exact (new_sl (fun g hg => .inl (by simp [Chunk.foot] at hg; simp [feet, Chunk.foot, hg])) (by intro g hg; exact .inl (by simp [feet, Chunk.foot] at hg ⊢; rcases hg with h | h | h | h <;> simp [h]))); exact trivial
set_option maxRecDepth 100000 in
set_option maxHeartbeats 4000000 in
theorem append_2G {w : World} (g0 : Nat) (gl gd gw gm fr room : Nat) (h h' : Hd) (cap0 : Nat) (bs : List Int) (D : Dk) (nd : Nat) (hok : D.OK nd) (ho : OS (feet (LogL gl gd gw gm fr room h (some ⟨g0, 0, none⟩) cap0 bs D)) w.heap.size (some ⟨g0, 0, none⟩) cap0 bs.length) (hlr : bs.length ≤ room) (hroom : room ≤ 1100000) (hfit : fr + 2 + (room + 63) / 64 ≤ nd) (hser : 0 ≤ h.ser ∧ h.ser < 4611686018427387904) (p : Nat) (hp : (p : Int) = h'.ser % 2) (h1 : h'.ser = h.ser + 1) (a : Option Addr) (len cap : Nat) (ys : List Int) (h2 : h'.cnt = (bs ++ ys).length) (hyl : ys.length = len) (hy0 : 0 < len) (hfr : bs.length + len ≤ room) (hys : SlE (Value.int .u8) w a ys) (hyx : ∀ g o, a = some ⟨g, o, none⟩ → g ∉ (feet (LogL gl gd gw gm fr room h (some ⟨g0, 0, none⟩) cap0 bs D))) (r1 : Bool × Dk) (hr1e : r1 = wrAll (rmW fr (bs ++ ys) (((bs ++ ys).length + 63) / 64 - bs.length / 64) (bs.length / 64)) D) (hr1 : r1.1 = true) (r2 : Bool × Dk) (hre : r2 = wrAll [(fr + p, secH h')] r1.2) (hrt : r2.1 = false) (hk : cap0 < bs.length + len) (hL0 : Has (LogL gl gd gw gm fr room h (some ⟨g0, 0, none⟩) cap0 bs D) w) :
    CA Tryz.prog 29 [.pointer (some ⟨gl, 0, none⟩), .slice a len cap, .agg (noteE h'.nt).toArray] w (Ret (fun _ : Unit => .int .i64 5) (feet (LogL gl gd gw gm fr room h (some ⟨g0, 0, none⟩) cap0 bs D)) (fun _ => .sl (some ⟨g0, 0, none⟩) cap0 5 1 ((bs).map (Value.int .u8)) :: LgB gl gd fr room h (.slice (some ⟨g0, 0, none⟩) bs.length cap0) true :: DskL gd gw gm r2.2) (fun _ => True) w) := by
  have hnd := hok.n9
  have hbl : bs.length + len = (bs ++ ys).length := by simp [hyl]
  obtain ⟨ga, oa, rfl, hOa⟩ := hys.get (i := 0) (by omega)
  have hrd := fun L => RdN.old (L := L) (w0 := w) hOa (hyx ga oa rfl)
  have hok1 : ∀ r1, r1 = wrAll (rmW fr (bs ++ ys) (((bs ++ ys).length + 63) / 64 - bs.length / 64) (bs.length / 64)) D → r1.2.OK nd := fun r1 e => by
    rw [e]
    exact wrAll_OK _ _ (fun e he => by have := rmW_lt _ _ e he; omega) hok
  
  skip
  refine enter (L := (LogL gl gd gw gm fr room h (some ⟨g0, 0, none⟩) cap0 bs D)) (X := (feet (LogL gl gd gw gm fr room h (some ⟨g0, 0, none⟩) cap0 bs D))) Tryz.func29 rfl Tryz.ntmps29 rfl rfl hL0 ?_
  repeat (first | refine c_seq ?_ | (refine c_region (id := 0) ?_; refine se ?_; refine eb ?_; refine sq qa ?_; refine l_nil ?_) | (refine c_region (id := 1) ?_; refine sq qm ?_; refine se ?_; refine ecp rfl rfl (fun w hC hm hL => by exact ready_y gl gd fr room h (.slice (some ⟨g0, 0, none⟩) bs.length cap0) hser w (hL.sub (by (repeat (first | exact List.nil_sublist _ | exact List.Sublist.slnil | apply List.Sublist.cons_cons | exact List.Sublist.refl _ | apply List.Sublist.cons))))) ?_; intro m' hm'; refine sq qa ?_; refine l_nil ?_) | (refine c_region (id := 2) ?_; refine sq qm ?_; refine sq (by first | exact dneqt | exact dneqf) ?_; refine l_nil ?_) | (refine c_region (id := 4) ?_; refine sq qm ?_; refine sq qls ?_; refine sq qm ?_; refine se ?_; refine ecp rfl rfl (fun w hC hm hL => by exact room_c gl gd fr room h (some ⟨g0, 0, none⟩) bs.length cap0 false ⟨hlr, by omega⟩ w (hL.sub (by (repeat (first | exact List.nil_sublist _ | exact List.Sublist.slnil | apply List.Sublist.cons_cons | exact List.Sublist.refl _ | apply List.Sublist.cons))))) ?_; intro m' hm'; refine sq (by first | exact dgtrt | exact dgtrf) ?_; refine l_nil ?_) | (refine c_region (id := 6) ?_; refine sq qm ?_; refine sq qls ?_; refine sq (by first | exact deqlt | exact deqlf) ?_; refine l_nil ?_) | (refine c_region (id := 8) ?_; refine sq qm ?_; refine sq qn ?_; refine sq qf ?_; refine sq ql ?_; refine sq qm ?_; refine se ?_; refine e_appG (Value.int .u8) bs ys rfl rfl rfl (RdN.sl (by (repeat (first | exact List.Mem.head _ | apply List.Mem.tail))) (by rw [List.drop_zero, List.take_of_length_le (Nat.le_refl _)])) (hrd _) rfl hyl (allOne_u8L _) hk (by omega) (by omega) ?_; intro cap2 hcp1 hcp2; refine sq qa ?_; refine l_nil ?_) | refine n_then ?_ | refine c_block ?_ | refine c_skip ?_ | refine n_block ?_ | refine c_exit ?_ | refine n_then_exit ?_ | refine n_block_eq ?_ | refine n_block_ne rfl ?_ | refine c_ret ?_ | refine n_then_ret ?_ | refine n_block_ret ?_ | refine c_cond_t rfl ?_ | refine c_cond_f rfl ?_ | refine r_succ ?_ )
  rw [hbl] at hcp1 ⊢
  obtain ⟨mG, hmG⟩ : ∃ mG, mG = m' := ⟨_, rfl⟩
  rw [← hmG]
  obtain ⟨b2, hb2⟩ : ∃ b2, b2 = (some ⟨mG, 0, none⟩ : Option Addr) := ⟨_, rfl⟩
  have ho2 : OS (feet (LogL gl gd gw gm fr room h (some ⟨g0, 0, none⟩) cap0 bs D)) w.heap.size b2 cap2 (bs ++ ys).length := ⟨hcp1, hcp2, .inr ⟨_, hb2⟩, by intro g hg; rw [hb2] at hg; simp [Chunk.foot] at hg; exact .inr (by omega)⟩
  rw [← hb2]
  repeat (first | refine c_seq ?_ | (refine c_region (id := 9) ?_; refine sq qm ?_; refine sq qm ?_; refine se ?_; refine e_callX (DskL gd gw gm D) _ rfl rfl (by kernel_rfl) rfl (by (repeat (first | exact Sp.nil | (apply Sp.cons; focus (repeat (first | exact Rm.here | apply Rm.there)))))) (fun w hC hm hA hL hap => by have h9 := wroom_c gl gd gw gm fr room h (some ⟨g0, 0, none⟩) bs.length cap0 false D nd hok b2 (bs ++ ys).length cap2 (bs ++ ys) rfl ho2.le (by omega) (by omega) (by omega) w (SlE.own hL (by (repeat (first | exact List.Mem.head _ | apply List.Mem.tail))) ho2) (apart_sl (by (repeat (first | exact List.Mem.head _ | apply List.Mem.tail))) hap) ((has_app hL hA hap).sub (by (repeat (first | exact List.nil_sublist _ | exact List.Sublist.slnil | apply List.Sublist.cons_cons | exact List.Sublist.refl _ | apply List.Sublist.cons)))); rw [← hr1e, hr1, erC_t] at h9; exact h9) (by intro g hg; exact .inl (by simp [feet, Chunk.foot] at hg ⊢; rcases hg with h | h | h <;> simp [h])) (fun _ => rfl) ?_; intro _ m5 _ _ hm5; refine sq qa ?_; refine l_nil ?_) | (refine c_region (id := 10) ?_; refine sq qm ?_; refine sq (by first | exact dneqt | exact dneqf) ?_; refine l_nil ?_) | (refine c_region (id := 12) ?_; refine sq qm ?_; refine sq qm ?_; refine sq (by exact qlb (hl := by rfl)) ?_; refine se ?_; refine e_callX (LgB gl gd fr room h (.slice (some ⟨g0, 0, none⟩) bs.length cap0) false :: DskL gd gw gm r1.2) _ rfl rfl (by kernel_rfl) rfl (by (repeat (first | exact Sp.nil | (apply Sp.cons; focus (repeat (first | exact Rm.here | apply Rm.there)))))) (fun w hC hm hA hL hap => by exact become_n gl gd gw gm fr room h h' (.slice (some ⟨g0, 0, none⟩) bs.length cap0) r1.2 nd (hok1 r1 hr1e) b2 (bs ++ ys).length cap2 (by omega) hser h1 h2 p hp (by omega) r2 hre hrt w hA) (by intro g hg; exact .inl (by simp [feet, Chunk.foot] at hg ⊢; rcases hg with h | h | h | h <;> simp [h])) (fun _ => rfl) ?_; intro _ m7 _ _ hm7; refine sq qa ?_; refine l_nil ?_) | refine n_then ?_ | refine c_block ?_ | refine c_skip ?_ | refine n_block ?_ | refine c_exit ?_ | refine n_then_exit ?_ | refine n_block_eq ?_ | refine n_block_ne rfl ?_ | refine c_ret ?_ | refine n_then_ret ?_ | refine n_block_ret ?_ | refine c_cond_t rfl ?_ | refine c_cond_f rfl ?_ | refine r_succ ?_ )
  refine fgs (A := (.sl (some ⟨g0, 0, none⟩) cap0 5 1 ((bs).map (Value.int .u8)) :: LgB gl gd fr room h (.slice (some ⟨g0, 0, none⟩) bs.length cap0) true :: DskL gd gw gm r2.2)) (by (repeat (first | exact Sp.nil | (apply Sp.cons; focus (repeat (first | exact Rm.here | apply Rm.there)))))) ?_
  (first | apply r_ret () | apply r_end ()); exact rfl; exact rfl; exact (.tmp rfl .nil); exact rfl; exact (List.Sublist.refl _); exact (new_sl (fun g hg => .inl (by simp [Chunk.foot] at hg; simp [feet, Chunk.foot, hg])) (by intro g hg; exact .inl (by simp [feet, Chunk.foot] at hg ⊢; rcases hg with h | h | h | h <;> simp [h]))); exact trivial
set_option maxRecDepth 100000 in
set_option maxHeartbeats 4000000 in
theorem append_1N {w : World} (gl gd gw gm fr room : Nat) (h h' : Hd) (D : Dk) (nd : Nat) (hok : D.OK nd) (ho : OS (feet (LogL gl gd gw gm fr room h none 0 ([] : List Int) D)) w.heap.size none 0 ([] : List Int).length) (hlr : ([] : List Int).length ≤ room) (hroom : room ≤ 1100000) (hfit : fr + 2 + (room + 63) / 64 ≤ nd) (hser : 0 ≤ h.ser ∧ h.ser < 4611686018427387904) (p : Nat) (hp : (p : Int) = h'.ser % 2) (h1 : h'.ser = h.ser + 1) (a : Option Addr) (len cap : Nat) (ys : List Int) (h2 : h'.cnt = (([] : List Int) ++ ys).length) (hyl : ys.length = len) (hy0 : 0 < len) (hfr : ([] : List Int).length + len ≤ room) (hys : SlE (Value.int .u8) w a ys) (hyx : ∀ g o, a = some ⟨g, o, none⟩ → g ∉ (feet (LogL gl gd gw gm fr room h none 0 ([] : List Int) D))) (r1 : Bool × Dk) (hr1e : r1 = wrAll (rmW fr (([] : List Int) ++ ys) (((([] : List Int) ++ ys).length + 63) / 64 - ([] : List Int).length / 64) (([] : List Int).length / 64)) D) (hr1 : r1.1 = false) (hL0 : Has (LogL gl gd gw gm fr room h none 0 ([] : List Int) D) w) :
    CA Tryz.prog 29 [.pointer (some ⟨gl, 0, none⟩), .slice a len cap, .agg (noteE h'.nt).toArray] w (Ret (fun _ : Unit => .int .i64 5) (feet (LogL gl gd gw gm fr room h none 0 ([] : List Int) D)) (fun _ => .sl none 0 5 1 ((([] : List Int)).map (Value.int .u8)) :: LgB gl gd fr room h (.slice none ([] : List Int).length 0) true :: DskL gd gw gm r1.2) (fun _ => True) w) := by
  have hnd := hok.n9
  have hbl : ([] : List Int).length + len = (([] : List Int) ++ ys).length := by simp [hyl]
  obtain ⟨ga, oa, rfl, hOa⟩ := hys.get (i := 0) (by omega)
  have hrd := fun L => RdN.old (L := L) (w0 := w) hOa (hyx ga oa rfl)
  have hok1 : ∀ r1, r1 = wrAll (rmW fr (([] : List Int) ++ ys) (((([] : List Int) ++ ys).length + 63) / 64 - ([] : List Int).length / 64) (([] : List Int).length / 64)) D → r1.2.OK nd := fun r1 e => by
    rw [e]
    exact wrAll_OK _ _ (fun e he => by have := rmW_lt _ _ e he; omega) hok
  
  skip
  refine enter (L := (LogL gl gd gw gm fr room h none 0 ([] : List Int) D)) (X := (feet (LogL gl gd gw gm fr room h none 0 ([] : List Int) D))) Tryz.func29 rfl Tryz.ntmps29 rfl rfl hL0 ?_
  repeat (first | refine c_seq ?_ | (refine c_region (id := 0) ?_; refine se ?_; refine eb ?_; refine sq qa ?_; refine l_nil ?_) | (refine c_region (id := 1) ?_; refine sq qm ?_; refine se ?_; refine ecp rfl rfl (fun w hC hm hL => by exact ready_y gl gd fr room h (.slice none ([] : List Int).length 0) hser w (hL.sub (by (repeat (first | exact List.nil_sublist _ | exact List.Sublist.slnil | apply List.Sublist.cons_cons | exact List.Sublist.refl _ | apply List.Sublist.cons))))) ?_; intro m' hm'; refine sq qa ?_; refine l_nil ?_) | (refine c_region (id := 2) ?_; refine sq qm ?_; refine sq (by first | exact dneqt | exact dneqf) ?_; refine l_nil ?_) | (refine c_region (id := 4) ?_; refine sq qm ?_; refine sq qls ?_; refine sq qm ?_; refine se ?_; refine ecp rfl rfl (fun w hC hm hL => by exact room_c gl gd fr room h none ([] : List Int).length 0 false ⟨hlr, by omega⟩ w (hL.sub (by (repeat (first | exact List.nil_sublist _ | exact List.Sublist.slnil | apply List.Sublist.cons_cons | exact List.Sublist.refl _ | apply List.Sublist.cons))))) ?_; intro m' hm'; refine sq (by first | exact dgtrt | exact dgtrf) ?_; refine l_nil ?_) | (refine c_region (id := 6) ?_; refine sq qm ?_; refine sq qls ?_; refine sq (by first | exact deqlt | exact deqlf) ?_; refine l_nil ?_) | (refine c_region (id := 8) ?_; refine sq qm ?_; refine sq qn ?_; refine sq qf ?_; refine sq ql ?_; refine sq qm ?_; refine se ?_; refine e_appE (Value.int .u8) ([] : List Int) ys rfl rfl rfl (by (repeat (first | exact Rm.here | apply Rm.there))) (.inr ⟨_, rfl, hrd _⟩) rfl hyl ho (allOne_u8L _) (by omega) (by omega) ?_; intro b2 cap2 m2 ho2 hm2; refine sq qa ?_; refine l_nil ?_) | refine n_then ?_ | refine c_block ?_ | refine c_skip ?_ | refine n_block ?_ | refine c_exit ?_ | refine n_then_exit ?_ | refine n_block_eq ?_ | refine n_block_ne rfl ?_ | refine c_ret ?_ | refine n_then_ret ?_ | refine n_block_ret ?_ | refine c_cond_t rfl ?_ | refine c_cond_f rfl ?_ | refine r_succ ?_ )
  rw [hbl] at ho2 ⊢
  repeat (first | refine c_seq ?_ | (refine c_region (id := 9) ?_; refine sq qm ?_; refine sq qm ?_; refine se ?_; refine e_callX (DskL gd gw gm D) _ rfl rfl (by kernel_rfl) rfl (by (repeat (first | exact Sp.nil | (apply Sp.cons; focus (repeat (first | exact Rm.here | apply Rm.there)))))) (fun w hC hm hA hL hap => by have h9 := wroom_c gl gd gw gm fr room h none ([] : List Int).length 0 false D nd hok b2 (([] : List Int) ++ ys).length cap2 (([] : List Int) ++ ys) rfl ho2.le (by omega) (by omega) (by omega) w (SlE.own hL (by (repeat (first | exact List.Mem.head _ | apply List.Mem.tail))) ho2) (apart_sl (by (repeat (first | exact List.Mem.head _ | apply List.Mem.tail))) hap) ((has_app hL hA hap).sub (by (repeat (first | exact List.nil_sublist _ | exact List.Sublist.slnil | apply List.Sublist.cons_cons | exact List.Sublist.refl _ | apply List.Sublist.cons)))); rw [← hr1e, hr1, erC_f] at h9; exact h9) (by intro g hg; exact .inl (by simp [feet, Chunk.foot] at hg ⊢; rcases hg with h | h | h <;> simp [h])) (fun _ => rfl) ?_; intro _ m5 _ _ hm5; refine sq qa ?_; refine l_nil ?_) | (refine c_region (id := 10) ?_; refine sq qm ?_; refine sq (by first | exact dneqt | exact dneqf) ?_; refine l_nil ?_) | (refine c_region (id := 11) ?_; refine sq qm ?_; refine se ?_; refine e_call_upd rfl rfl (by kernel_rfl) rfl (fun w hC hm hL => by exact end_c gl gd fr room h (.slice none ([] : List Int).length 0) false w (hL.sub (by (repeat (first | exact List.nil_sublist _ | exact List.Sublist.slnil | apply List.Sublist.cons_cons | exact List.Sublist.refl _ | apply List.Sublist.cons))))) (by (repeat (first | exact Pl.here | apply Pl.there))) (.inl (by simp [feet, Chunk.foot])) ?_; intro m' hm'; refine sq qa ?_; refine l_nil ?_) | refine n_then ?_ | refine c_block ?_ | refine c_skip ?_ | refine n_block ?_ | refine c_exit ?_ | refine n_then_exit ?_ | refine n_block_eq ?_ | refine n_block_ne rfl ?_ | refine c_ret ?_ | refine n_then_ret ?_ | refine n_block_ret ?_ | refine c_cond_t rfl ?_ | refine c_cond_f rfl ?_ | refine r_succ ?_ )
  refine add_nil 5 1 ?_
  refine fgs (A := (.sl none 0 5 1 ((([] : List Int)).map (Value.int .u8)) :: LgB gl gd fr room h (.slice none ([] : List Int).length 0) true :: DskL gd gw gm r1.2)) (by (repeat (first | exact Sp.nil | (apply Sp.cons; focus (repeat (first | exact Rm.here | apply Rm.there)))))) ?_
  (first | apply r_ret () | apply r_end ()); exact rfl; exact rfl; exact (.tmp rfl .nil); exact rfl; exact (List.Sublist.refl _); exact (new_sl (by simp [Chunk.foot]) (by intro g hg; exact .inl (by simp [feet, Chunk.foot] at hg ⊢; rcases hg with h | h | h | h <;> simp [h]))); exact trivial
set_option maxRecDepth 100000 in
set_option maxHeartbeats 4000000 in
theorem append_2N {w : World} (gl gd gw gm fr room : Nat) (h h' : Hd) (D : Dk) (nd : Nat) (hok : D.OK nd) (ho : OS (feet (LogL gl gd gw gm fr room h none 0 ([] : List Int) D)) w.heap.size none 0 ([] : List Int).length) (hlr : ([] : List Int).length ≤ room) (hroom : room ≤ 1100000) (hfit : fr + 2 + (room + 63) / 64 ≤ nd) (hser : 0 ≤ h.ser ∧ h.ser < 4611686018427387904) (p : Nat) (hp : (p : Int) = h'.ser % 2) (h1 : h'.ser = h.ser + 1) (a : Option Addr) (len cap : Nat) (ys : List Int) (h2 : h'.cnt = (([] : List Int) ++ ys).length) (hyl : ys.length = len) (hy0 : 0 < len) (hfr : ([] : List Int).length + len ≤ room) (hys : SlE (Value.int .u8) w a ys) (hyx : ∀ g o, a = some ⟨g, o, none⟩ → g ∉ (feet (LogL gl gd gw gm fr room h none 0 ([] : List Int) D))) (r1 : Bool × Dk) (hr1e : r1 = wrAll (rmW fr (([] : List Int) ++ ys) (((([] : List Int) ++ ys).length + 63) / 64 - ([] : List Int).length / 64) (([] : List Int).length / 64)) D) (hr1 : r1.1 = true) (r2 : Bool × Dk) (hre : r2 = wrAll [(fr + p, secH h')] r1.2) (hrt : r2.1 = false) (hL0 : Has (LogL gl gd gw gm fr room h none 0 ([] : List Int) D) w) :
    CA Tryz.prog 29 [.pointer (some ⟨gl, 0, none⟩), .slice a len cap, .agg (noteE h'.nt).toArray] w (Ret (fun _ : Unit => .int .i64 5) (feet (LogL gl gd gw gm fr room h none 0 ([] : List Int) D)) (fun _ => .sl none 0 5 1 ((([] : List Int)).map (Value.int .u8)) :: LgB gl gd fr room h (.slice none ([] : List Int).length 0) true :: DskL gd gw gm r2.2) (fun _ => True) w) := by
  have hnd := hok.n9
  have hbl : ([] : List Int).length + len = (([] : List Int) ++ ys).length := by simp [hyl]
  obtain ⟨ga, oa, rfl, hOa⟩ := hys.get (i := 0) (by omega)
  have hrd := fun L => RdN.old (L := L) (w0 := w) hOa (hyx ga oa rfl)
  have hok1 : ∀ r1, r1 = wrAll (rmW fr (([] : List Int) ++ ys) (((([] : List Int) ++ ys).length + 63) / 64 - ([] : List Int).length / 64) (([] : List Int).length / 64)) D → r1.2.OK nd := fun r1 e => by
    rw [e]
    exact wrAll_OK _ _ (fun e he => by have := rmW_lt _ _ e he; omega) hok
  
  skip
  refine enter (L := (LogL gl gd gw gm fr room h none 0 ([] : List Int) D)) (X := (feet (LogL gl gd gw gm fr room h none 0 ([] : List Int) D))) Tryz.func29 rfl Tryz.ntmps29 rfl rfl hL0 ?_
  repeat (first | refine c_seq ?_ | (refine c_region (id := 0) ?_; refine se ?_; refine eb ?_; refine sq qa ?_; refine l_nil ?_) | (refine c_region (id := 1) ?_; refine sq qm ?_; refine se ?_; refine ecp rfl rfl (fun w hC hm hL => by exact ready_y gl gd fr room h (.slice none ([] : List Int).length 0) hser w (hL.sub (by (repeat (first | exact List.nil_sublist _ | exact List.Sublist.slnil | apply List.Sublist.cons_cons | exact List.Sublist.refl _ | apply List.Sublist.cons))))) ?_; intro m' hm'; refine sq qa ?_; refine l_nil ?_) | (refine c_region (id := 2) ?_; refine sq qm ?_; refine sq (by first | exact dneqt | exact dneqf) ?_; refine l_nil ?_) | (refine c_region (id := 4) ?_; refine sq qm ?_; refine sq qls ?_; refine sq qm ?_; refine se ?_; refine ecp rfl rfl (fun w hC hm hL => by exact room_c gl gd fr room h none ([] : List Int).length 0 false ⟨hlr, by omega⟩ w (hL.sub (by (repeat (first | exact List.nil_sublist _ | exact List.Sublist.slnil | apply List.Sublist.cons_cons | exact List.Sublist.refl _ | apply List.Sublist.cons))))) ?_; intro m' hm'; refine sq (by first | exact dgtrt | exact dgtrf) ?_; refine l_nil ?_) | (refine c_region (id := 6) ?_; refine sq qm ?_; refine sq qls ?_; refine sq (by first | exact deqlt | exact deqlf) ?_; refine l_nil ?_) | (refine c_region (id := 8) ?_; refine sq qm ?_; refine sq qn ?_; refine sq qf ?_; refine sq ql ?_; refine sq qm ?_; refine se ?_; refine e_appE (Value.int .u8) ([] : List Int) ys rfl rfl rfl (by (repeat (first | exact Rm.here | apply Rm.there))) (.inr ⟨_, rfl, hrd _⟩) rfl hyl ho (allOne_u8L _) (by omega) (by omega) ?_; intro b2 cap2 m2 ho2 hm2; refine sq qa ?_; refine l_nil ?_) | refine n_then ?_ | refine c_block ?_ | refine c_skip ?_ | refine n_block ?_ | refine c_exit ?_ | refine n_then_exit ?_ | refine n_block_eq ?_ | refine n_block_ne rfl ?_ | refine c_ret ?_ | refine n_then_ret ?_ | refine n_block_ret ?_ | refine c_cond_t rfl ?_ | refine c_cond_f rfl ?_ | refine r_succ ?_ )
  rw [hbl] at ho2 ⊢
  repeat (first | refine c_seq ?_ | (refine c_region (id := 9) ?_; refine sq qm ?_; refine sq qm ?_; refine se ?_; refine e_callX (DskL gd gw gm D) _ rfl rfl (by kernel_rfl) rfl (by (repeat (first | exact Sp.nil | (apply Sp.cons; focus (repeat (first | exact Rm.here | apply Rm.there)))))) (fun w hC hm hA hL hap => by have h9 := wroom_c gl gd gw gm fr room h none ([] : List Int).length 0 false D nd hok b2 (([] : List Int) ++ ys).length cap2 (([] : List Int) ++ ys) rfl ho2.le (by omega) (by omega) (by omega) w (SlE.own hL (by (repeat (first | exact List.Mem.head _ | apply List.Mem.tail))) ho2) (apart_sl (by (repeat (first | exact List.Mem.head _ | apply List.Mem.tail))) hap) ((has_app hL hA hap).sub (by (repeat (first | exact List.nil_sublist _ | exact List.Sublist.slnil | apply List.Sublist.cons_cons | exact List.Sublist.refl _ | apply List.Sublist.cons)))); rw [← hr1e, hr1, erC_t] at h9; exact h9) (by intro g hg; exact .inl (by simp [feet, Chunk.foot] at hg ⊢; rcases hg with h | h | h <;> simp [h])) (fun _ => rfl) ?_; intro _ m5 _ _ hm5; refine sq qa ?_; refine l_nil ?_) | (refine c_region (id := 10) ?_; refine sq qm ?_; refine sq (by first | exact dneqt | exact dneqf) ?_; refine l_nil ?_) | (refine c_region (id := 12) ?_; refine sq qm ?_; refine sq qm ?_; refine sq (by exact qlb (hl := by rfl)) ?_; refine se ?_; refine e_callX (LgB gl gd fr room h (.slice none ([] : List Int).length 0) false :: DskL gd gw gm r1.2) _ rfl rfl (by kernel_rfl) rfl (by (repeat (first | exact Sp.nil | (apply Sp.cons; focus (repeat (first | exact Rm.here | apply Rm.there)))))) (fun w hC hm hA hL hap => by exact become_n gl gd gw gm fr room h h' (.slice none ([] : List Int).length 0) r1.2 nd (hok1 r1 hr1e) b2 (([] : List Int) ++ ys).length cap2 (by omega) hser h1 h2 p hp (by omega) r2 hre hrt w hA) (by intro g hg; exact .inl (by simp [feet, Chunk.foot] at hg ⊢; rcases hg with h | h | h | h <;> simp [h])) (fun _ => rfl) ?_; intro _ m7 _ _ hm7; refine sq qa ?_; refine l_nil ?_) | refine n_then ?_ | refine c_block ?_ | refine c_skip ?_ | refine n_block ?_ | refine c_exit ?_ | refine n_then_exit ?_ | refine n_block_eq ?_ | refine n_block_ne rfl ?_ | refine c_ret ?_ | refine n_then_ret ?_ | refine n_block_ret ?_ | refine c_cond_t rfl ?_ | refine c_cond_f rfl ?_ | refine r_succ ?_ )
  refine add_nil 5 1 ?_
  refine fgs (A := (.sl none 0 5 1 ((([] : List Int)).map (Value.int .u8)) :: LgB gl gd fr room h (.slice none ([] : List Int).length 0) true :: DskL gd gw gm r2.2)) (by (repeat (first | exact Sp.nil | (apply Sp.cons; focus (repeat (first | exact Rm.here | apply Rm.there)))))) ?_
  (first | apply r_ret () | apply r_end ()); exact rfl; exact rfl; exact (.tmp rfl .nil); exact rfl; exact (List.Sublist.refl _); exact (new_sl (by simp [Chunk.foot]) (by intro g hg; exact .inl (by simp [feet, Chunk.foot] at hg ⊢; rcases hg with h | h | h | h <;> simp [h]))); exact trivial
set_option maxRecDepth 100000 in
set_option maxHeartbeats 4000000 in
theorem append_0k {w : World} (gl gd gw gm fr room : Nat) (h h' : Hd) (b0 : Option Addr) (cap0 : Nat) (bs : List Int) (D : Dk) (nd : Nat) (hok : D.OK nd) (ho : OS (feet (LogL gl gd gw gm fr room h b0 cap0 bs D)) w.heap.size b0 cap0 bs.length) (hlr : bs.length ≤ room) (hroom : room ≤ 1100000) (hfit : fr + 2 + (room + 63) / 64 ≤ nd) (hser : 0 ≤ h.ser ∧ h.ser < 4611686018427387904) (p : Nat) (hp : (p : Int) = h'.ser % 2) (h1 : h'.ser = h.ser + 1) (h2 : h'.cnt = bs.length) (a : Option Addr) (cap : Nat) (r : Bool × Dk) (hre : r = wrAll [(fr + p, secH h')] D) (hrt : r.1 = false) (hL0 : Has (LogL gl gd gw gm fr room h b0 cap0 bs D) w) :
    CA Tryz.prog 29 [.pointer (some ⟨gl, 0, none⟩), .slice a 0 cap, .agg (noteE h'.nt).toArray] w (Ret (fun _ : Unit => .int .i64 5) (feet (LogL gl gd gw gm fr room h b0 cap0 bs D)) (fun _ => .sl b0 cap0 5 1 ((bs).map (Value.int .u8)) :: LgB gl gd fr room h (.slice b0 bs.length cap0) true :: DskL gd gw gm r.2) (fun _ => True) w) := by
  have hnd := hok.n9
  refine enter (L := (LogL gl gd gw gm fr room h b0 cap0 bs D)) (X := (feet (LogL gl gd gw gm fr room h b0 cap0 bs D))) Tryz.func29 rfl Tryz.ntmps29 rfl rfl hL0 ?_
  repeat (first | refine c_seq ?_ | (refine c_region (id := 0) ?_; refine se ?_; refine eb ?_; refine sq qa ?_; refine l_nil ?_) | (refine c_region (id := 1) ?_; refine sq qm ?_; refine se ?_; refine ecp rfl rfl (fun w hC hm hL => by exact ready_y gl gd fr room h (.slice b0 bs.length cap0) hser w (hL.sub (by (repeat (first | exact List.nil_sublist _ | exact List.Sublist.slnil | apply List.Sublist.cons_cons | exact List.Sublist.refl _ | apply List.Sublist.cons))))) ?_; intro m' hm'; refine sq qa ?_; refine l_nil ?_) | (refine c_region (id := 2) ?_; refine sq qm ?_; refine sq (by first | exact dneqt | exact dneqf) ?_; refine l_nil ?_) | (refine c_region (id := 4) ?_; refine sq qm ?_; refine sq qls ?_; refine sq qm ?_; refine se ?_; refine ecp rfl rfl (fun w hC hm hL => by exact room_c gl gd fr room h b0 bs.length cap0 false ⟨hlr, by omega⟩ w (hL.sub (by (repeat (first | exact List.nil_sublist _ | exact List.Sublist.slnil | apply List.Sublist.cons_cons | exact List.Sublist.refl _ | apply List.Sublist.cons))))) ?_; intro m' hm'; refine sq (by first | exact dgtrt | exact dgtrf) ?_; refine l_nil ?_) | (refine c_region (id := 6) ?_; refine sq qm ?_; refine sq qls ?_; refine sq (by first | exact deqlt | exact deqlf) ?_; refine l_nil ?_) | refine n_then ?_ | refine c_block ?_ | refine c_skip ?_ | refine n_block ?_ | refine c_exit ?_ | refine n_then_exit ?_ | refine n_block_eq ?_ | refine n_block_ne rfl ?_ | refine c_ret ?_ | refine n_then_ret ?_ | refine n_block_ret ?_ | refine c_cond_t rfl ?_ | refine c_cond_f rfl ?_ | refine r_succ ?_ )
  repeat (first | refine c_seq ?_ | (refine x_region (id := 7) (some 6) [(0, .n), (1, .n), (2, .n), (3, .n), (4, .q), (5, .q), (6, .b), (7, .n)] _ mixed (by kernel_rfl) (List.Sublist.refl _) ?_; refine xn rfl qm ?_; refine xn rfl qm ?_; refine xn rfl qn ?_; refine xn rfl qf ?_; refine xq rfl ql ?_; refine xq rfl (by exact qlb (hl := by rfl)) ?_; refine x_b rfl ?_; refine e_callX (LgB gl gd fr room h (.slice b0 bs.length cap0) false :: DskL gd gw gm D) _ rfl rfl (by kernel_rfl) rfl (by (repeat (first | exact Sp.nil | (apply Sp.cons; focus (repeat (first | exact Rm.here | apply Rm.there)))))) (fun w hC hm hA hL hap => by exact become_n gl gd gw gm fr room h h' (.slice b0 bs.length cap0) D nd hok b0 bs.length cap0 (by omega) hser h1 h2 p hp (by omega) r hre hrt w hA) (by intro g hg; exact .inl (by simp [feet, Chunk.foot] at hg ⊢; rcases hg with h | h | h | h <;> simp [h])) (fun _ => rfl) ?_; intro _ m5 _ _ hm5; refine x_k (List.nil_sublist _) ?_; refine xn rfl qa ?_; refine x_nil ?_) | refine n_then ?_ | refine c_block ?_ | refine c_skip ?_ | refine n_block ?_ | refine c_exit ?_ | refine n_then_exit ?_ | refine n_block_eq ?_ | refine n_block_ne rfl ?_ | refine c_ret ?_ | refine n_then_ret ?_ | refine n_block_ret ?_ | refine c_cond_t rfl ?_ | refine c_cond_f rfl ?_ | refine r_succ ?_ )
  refine fgs (A := (.sl b0 cap0 5 1 ((bs).map (Value.int .u8)) :: LgB gl gd fr room h (.slice b0 bs.length cap0) true :: DskL gd gw gm r.2)) (by (repeat (first | exact Sp.nil | (apply Sp.cons; focus (repeat (first | exact Rm.here | apply Rm.there)))))) ?_
  (first | apply r_ret () | apply r_end ()); exact rfl; exact rfl; exact (.tmp rfl .nil); exact rfl; exact (List.Sublist.refl _); exact (new_sl (fun g hg => .inl (by simp only [feet, List.flatMap_cons, List.mem_append]; exact .inl hg)) (by intro g hg; exact .inl (by simp [feet, Chunk.foot] at hg ⊢; rcases hg with h | h | h | h <;> simp [h]))); exact trivial
theorem append_k {w : World} (gl gd gw gm fr room : Nat) (h h' : Hd) (b0 : Option Addr) (cap0 : Nat) (bs : List Int) (D : Dk) (nd : Nat) (hok : D.OK nd) (ho : OS (feet (LogL gl gd gw gm fr room h b0 cap0 bs D)) w.heap.size b0 cap0 bs.length) (hlr : bs.length ≤ room) (hroom : room ≤ 1100000) (hfit : fr + 2 + (room + 63) / 64 ≤ nd) (hser : 0 ≤ h.ser ∧ h.ser < 4611686018427387904) (p : Nat) (hp : (p : Int) = h'.ser % 2) (h1 : h'.ser = h.ser + 1) (a : Option Addr) (len cap : Nat) (ys : List Int) (h2 : h'.cnt = (bs ++ ys).length) (hyl : ys.length = len) (hfr : bs.length + len ≤ room) (hys : SlE (Value.int .u8) w a ys) (hyx : ∀ g o, a = some ⟨g, o, none⟩ → 0 < len → g ∉ (feet (LogL gl gd gw gm fr room h b0 cap0 bs D))) (r : Bool × Dk) (hr : r = appR fr p h' bs ys D) (hrt : r.1 = false) (hL0 : Has (LogL gl gd gw gm fr room h b0 cap0 bs D) w) :
    CA Tryz.prog 29 [.pointer (some ⟨gl, 0, none⟩), .slice a len cap, .agg (noteE h'.nt).toArray] w (Ret (fun _ : Unit => .int .i64 5) (feet (LogL gl gd gw gm fr room h b0 cap0 bs D)) (fun _ => .sl b0 cap0 5 1 ((bs).map (Value.int .u8)) :: LgB gl gd fr room h (.slice b0 bs.length cap0) true :: DskL gd gw gm r.2) (fun _ => True) w) := by
  by_cases hy : ys = []
  · subst hy
    obtain rfl : len = 0 := by rw [← hyl]; rfl
    rw [List.append_nil] at h2
    rw [appR, if_pos rfl] at hr
    exact append_0k gl gd gw gm fr room h h' b0 cap0 bs D nd hok ho hlr hroom hfit hser p hp h1 h2 a cap r hr hrt hL0
  · have hpos : 0 < len := by rw [← hyl]; exact List.length_pos_iff.2 hy
    rw [appR, if_neg hy] at hr
    have hob := ho.ob
    obtain ⟨r1, hr1⟩ : ∃ r1, r1 = wrAll (rmW fr (bs ++ ys) (((bs ++ ys).length + 63) / 64 - bs.length / 64) (bs.length / 64)) D := ⟨_, rfl⟩
    rw [← hr1] at hr
    rcases hob with ⟨hb0, hl0⟩ | ⟨g0, hb0⟩
    · have hbs : bs = [] := List.eq_nil_of_length_eq_zero hl0
      have hcx := hL0.ok _ (List.mem_cons_self ..)
      simp only [Chunk.ok, hb0] at hcx
      have hc0 : cap0 = 0 := by
        rcases hcx with h9 | ⟨g, cs, e, _⟩
        · exact h9.2.1
        · cases e
      clear hcx
      subst hb0 hbs hc0
      cases hb : r1.1 with
      | false =>
        rw [hb, if_neg (by simp)] at hr
        rw [hr]
        exact append_1N gl gd gw gm fr room h h' D nd hok ho hlr hroom hfit hser p hp h1 a len cap ys h2 hyl hpos hfr hys (fun g o e => hyx g o e hpos) r1 hr1 hb hL0
      | true =>
        rw [hb, if_pos rfl] at hr
        exact append_2N gl gd gw gm fr room h h' D nd hok ho hlr hroom hfit hser p hp h1 a len cap ys h2 hyl hpos hfr hys (fun g o e => hyx g o e hpos) r1 hr1 hb r hr hrt hL0
    · subst hb0
      by_cases hk : bs.length + len ≤ cap0
      · cases hb : r1.1 with
        | false =>
          rw [hb, if_neg (by simp)] at hr
          rw [hr]
          exact append_1I g0 gl gd gw gm fr room h h' cap0 bs D nd hok ho hlr hroom hfit hser p hp h1 a len cap ys h2 hyl hpos hfr hys (fun g o e => hyx g o e hpos) r1 hr1 hb hk hL0
        | true =>
          rw [hb, if_pos rfl] at hr
          exact append_2I g0 gl gd gw gm fr room h h' cap0 bs D nd hok ho hlr hroom hfit hser p hp h1 a len cap ys h2 hyl hpos hfr hys (fun g o e => hyx g o e hpos) r1 hr1 hb r hr hrt hk hL0
      · cases hb : r1.1 with
        | false =>
          rw [hb, if_neg (by simp)] at hr
          rw [hr]
          exact append_1G g0 gl gd gw gm fr room h h' cap0 bs D nd hok ho hlr hroom hfit hser p hp h1 a len cap ys h2 hyl hpos hfr hys (fun g o e => hyx g o e hpos) r1 hr1 hb (by omega) hL0
        | true =>
          rw [hb, if_pos rfl] at hr
          exact append_2G g0 gl gd gw gm fr room h h' cap0 bs D nd hok ho hlr hroom hfit hser p hp h1 a len cap ys h2 hyl hpos hfr hys (fun g o e => hyx g o e hpos) r1 hr1 hb r hr hrt (by omega) hL0
end Go.Proofs.YtgmghkakiocmjaaGreatDoor
namespace Go.Proofs.YtgmghkakiocmjaaGreatDoor
open Go Go.RowKit
set_option linter.unusedVariables false
set_option linter.unusedSimpArgs false
theorem ek_new {A : Nat → Addr} {w : World} (h : EK A w) : ∀ g, w.heap.size ≤ g → 4 < g ∧ ∀ i, i < 5 → (A i).block ≠ g := fun g hg => ⟨by have := h.lt.1; omega, fun i hi e => by have := h.lt.2 i hi; omega⟩
set_option maxRecDepth 100000 in
set_option maxHeartbeats 4000000 in
theorem sover_ff (gs : Nat) (at_ : Bool) (ga gb gd fra frb room : Nat) (ha hb : Hd) (sa sb : Value) (w : World) (hS : Has [.blk gs (.cells (stC at_ ga gb) 56 (0, 0)), LgB ga gd fra room ha sa false, LgB gb gd frb room hb sb false] w) : CA Tryz.prog 18 [.pointer (some ⟨gs, 0, none⟩)] w (RV (.bool false) w) := by
  refine enter (L := [.blk gs (.cells (stC at_ ga gb) 56 (0, 0)), LgB ga gd fra room ha sa false, LgB gb gd frb room hb sb false]) (X := []) Tryz.func18 rfl Tryz.ntmps18 rfl rfl hS ?_
  repeat (first | refine c_seq ?_ | (refine c_region (id := 0) ?_; refine sq qa ?_; refine l_nil ?_) | (refine c_region (id := 1) ?_; refine sq qm ?_; refine se ?_; refine ecp rfl rfl (fun w hC hm hL => by exact slog_c at_ gs ga gb w (hL.old (k := 3) (by (repeat (first | exact List.Mem.head _ | apply List.Mem.tail))) (by cases at_ <;> rfl))) ?_; intro m' hm'; refine se ?_; refine ecp rfl rfl (fun w hC hm hL => by first | exact lover_c ga gd fra room ha sa false w (hL.sub (by (repeat (first | exact List.nil_sublist _ | exact List.Sublist.slnil | apply List.Sublist.cons_cons | exact List.Sublist.refl _ | apply List.Sublist.cons)))) | exact lover_c gb gd frb room hb sb false w (hL.sub (by (repeat (first | exact List.nil_sublist _ | exact List.Sublist.slnil | apply List.Sublist.cons_cons | exact List.Sublist.refl _ | apply List.Sublist.cons))))) ?_; intro m' hm'; refine sq qm ?_; (first | refine sk ?_ | refine skv ?_ | (refine st_want rfl rfl ?_; refine sq qm ?_)); (first | refine sk ?_ | refine skv ?_ | (refine st_want rfl rfl ?_; refine se ?_; refine ecp rfl rfl (fun w hC hm hL => by exact soth_c at_ gs ga gb w (hL.old (k := 3) (by (repeat (first | exact List.Mem.head _ | apply List.Mem.tail))) (by cases at_ <;> rfl))) ?_; intro m' hm')); (first | refine sk ?_ | refine skv ?_ | (refine st_want rfl rfl ?_; refine se ?_; refine ecp rfl rfl (fun w hC hm hL => by first | exact lover_c ga gd fra room ha sa false w (hL.sub (by (repeat (first | exact List.nil_sublist _ | exact List.Sublist.slnil | apply List.Sublist.cons_cons | exact List.Sublist.refl _ | apply List.Sublist.cons)))) | exact lover_c gb gd frb room hb sb false w (hL.sub (by (repeat (first | exact List.nil_sublist _ | exact List.Sublist.slnil | apply List.Sublist.cons_cons | exact List.Sublist.refl _ | apply List.Sublist.cons))))) ?_; intro m' hm')); refine sq (by first | exact qpt | exact qpf) ?_; refine sq qa ?_; refine l_nil ?_) | refine n_then ?_ | refine c_block ?_ | refine c_skip ?_ | refine n_block ?_ | refine c_exit ?_ | refine n_then_exit ?_ | refine n_block_eq ?_ | refine n_block_ne rfl ?_ | refine c_ret ?_ | refine n_then_ret ?_ | refine n_block_ret ?_ | refine c_cond_t rfl ?_ | refine c_cond_f rfl ?_ | refine r_succ ?_ )
  (first | apply r_ret () | apply r_end ()); exact rfl; exact rfl; exact (.tmp rfl .nil); exact rfl; exact (List.nil_sublist _); exact new_nil; exact trivial
set_option maxRecDepth 100000 in
set_option maxHeartbeats 4000000 in
theorem sover_ft (gs : Nat) (at_ : Bool) (ga gb gd fra frb room : Nat) (ha hb : Hd) (sa sb : Value) (w : World) (hS : Has [.blk gs (.cells (stC at_ ga gb) 56 (0, 0)), LgB ga gd fra room ha sa false, LgB gb gd frb room hb sb true] w) : CA Tryz.prog 18 [.pointer (some ⟨gs, 0, none⟩)] w (RV (.bool true) w) := by
  refine enter (L := [.blk gs (.cells (stC at_ ga gb) 56 (0, 0)), LgB ga gd fra room ha sa false, LgB gb gd frb room hb sb true]) (X := []) Tryz.func18 rfl Tryz.ntmps18 rfl rfl hS ?_
  repeat (first | refine c_seq ?_ | (refine c_region (id := 0) ?_; refine sq qa ?_; refine l_nil ?_) | (refine c_region (id := 1) ?_; refine sq qm ?_; refine se ?_; refine ecp rfl rfl (fun w hC hm hL => by exact slog_c at_ gs ga gb w (hL.old (k := 3) (by (repeat (first | exact List.Mem.head _ | apply List.Mem.tail))) (by cases at_ <;> rfl))) ?_; intro m' hm'; refine se ?_; refine ecp rfl rfl (fun w hC hm hL => by first | exact lover_c ga gd fra room ha sa false w (hL.sub (by (repeat (first | exact List.nil_sublist _ | exact List.Sublist.slnil | apply List.Sublist.cons_cons | exact List.Sublist.refl _ | apply List.Sublist.cons)))) | exact lover_c gb gd frb room hb sb true w (hL.sub (by (repeat (first | exact List.nil_sublist _ | exact List.Sublist.slnil | apply List.Sublist.cons_cons | exact List.Sublist.refl _ | apply List.Sublist.cons))))) ?_; intro m' hm'; refine sq qm ?_; (first | refine sk ?_ | refine skv ?_ | (refine st_want rfl rfl ?_; refine sq qm ?_)); (first | refine sk ?_ | refine skv ?_ | (refine st_want rfl rfl ?_; refine se ?_; refine ecp rfl rfl (fun w hC hm hL => by exact soth_c at_ gs ga gb w (hL.old (k := 3) (by (repeat (first | exact List.Mem.head _ | apply List.Mem.tail))) (by cases at_ <;> rfl))) ?_; intro m' hm')); (first | refine sk ?_ | refine skv ?_ | (refine st_want rfl rfl ?_; refine se ?_; refine ecp rfl rfl (fun w hC hm hL => by first | exact lover_c ga gd fra room ha sa false w (hL.sub (by (repeat (first | exact List.nil_sublist _ | exact List.Sublist.slnil | apply List.Sublist.cons_cons | exact List.Sublist.refl _ | apply List.Sublist.cons)))) | exact lover_c gb gd frb room hb sb true w (hL.sub (by (repeat (first | exact List.nil_sublist _ | exact List.Sublist.slnil | apply List.Sublist.cons_cons | exact List.Sublist.refl _ | apply List.Sublist.cons))))) ?_; intro m' hm')); refine sq (by first | exact qpt | exact qpf) ?_; refine sq qa ?_; refine l_nil ?_) | refine n_then ?_ | refine c_block ?_ | refine c_skip ?_ | refine n_block ?_ | refine c_exit ?_ | refine n_then_exit ?_ | refine n_block_eq ?_ | refine n_block_ne rfl ?_ | refine c_ret ?_ | refine n_then_ret ?_ | refine n_block_ret ?_ | refine c_cond_t rfl ?_ | refine c_cond_f rfl ?_ | refine r_succ ?_ )
  (first | apply r_ret () | apply r_end ()); exact rfl; exact rfl; exact (.tmp rfl .nil); exact rfl; exact (List.nil_sublist _); exact new_nil; exact trivial
set_option maxRecDepth 100000 in
set_option maxHeartbeats 4000000 in
theorem sover_tf (gs : Nat) (at_ : Bool) (ga gb gd fra frb room : Nat) (ha hb : Hd) (sa sb : Value) (w : World) (hS : Has [.blk gs (.cells (stC at_ ga gb) 56 (0, 0)), LgB ga gd fra room ha sa true, LgB gb gd frb room hb sb false] w) : CA Tryz.prog 18 [.pointer (some ⟨gs, 0, none⟩)] w (RV (.bool true) w) := by
  refine enter (L := [.blk gs (.cells (stC at_ ga gb) 56 (0, 0)), LgB ga gd fra room ha sa true, LgB gb gd frb room hb sb false]) (X := []) Tryz.func18 rfl Tryz.ntmps18 rfl rfl hS ?_
  repeat (first | refine c_seq ?_ | (refine c_region (id := 0) ?_; refine sq qa ?_; refine l_nil ?_) | (refine c_region (id := 1) ?_; refine sq qm ?_; refine se ?_; refine ecp rfl rfl (fun w hC hm hL => by exact slog_c at_ gs ga gb w (hL.old (k := 3) (by (repeat (first | exact List.Mem.head _ | apply List.Mem.tail))) (by cases at_ <;> rfl))) ?_; intro m' hm'; refine se ?_; refine ecp rfl rfl (fun w hC hm hL => by first | exact lover_c ga gd fra room ha sa true w (hL.sub (by (repeat (first | exact List.nil_sublist _ | exact List.Sublist.slnil | apply List.Sublist.cons_cons | exact List.Sublist.refl _ | apply List.Sublist.cons)))) | exact lover_c gb gd frb room hb sb false w (hL.sub (by (repeat (first | exact List.nil_sublist _ | exact List.Sublist.slnil | apply List.Sublist.cons_cons | exact List.Sublist.refl _ | apply List.Sublist.cons))))) ?_; intro m' hm'; refine sq qm ?_; (first | refine sk ?_ | refine skv ?_ | (refine st_want rfl rfl ?_; refine sq qm ?_)); (first | refine sk ?_ | refine skv ?_ | (refine st_want rfl rfl ?_; refine se ?_; refine ecp rfl rfl (fun w hC hm hL => by exact soth_c at_ gs ga gb w (hL.old (k := 3) (by (repeat (first | exact List.Mem.head _ | apply List.Mem.tail))) (by cases at_ <;> rfl))) ?_; intro m' hm')); (first | refine sk ?_ | refine skv ?_ | (refine st_want rfl rfl ?_; refine se ?_; refine ecp rfl rfl (fun w hC hm hL => by first | exact lover_c ga gd fra room ha sa true w (hL.sub (by (repeat (first | exact List.nil_sublist _ | exact List.Sublist.slnil | apply List.Sublist.cons_cons | exact List.Sublist.refl _ | apply List.Sublist.cons)))) | exact lover_c gb gd frb room hb sb false w (hL.sub (by (repeat (first | exact List.nil_sublist _ | exact List.Sublist.slnil | apply List.Sublist.cons_cons | exact List.Sublist.refl _ | apply List.Sublist.cons))))) ?_; intro m' hm')); refine sq (by first | exact qpt | exact qpf) ?_; refine sq qa ?_; refine l_nil ?_) | refine n_then ?_ | refine c_block ?_ | refine c_skip ?_ | refine n_block ?_ | refine c_exit ?_ | refine n_then_exit ?_ | refine n_block_eq ?_ | refine n_block_ne rfl ?_ | refine c_ret ?_ | refine n_then_ret ?_ | refine n_block_ret ?_ | refine c_cond_t rfl ?_ | refine c_cond_f rfl ?_ | refine r_succ ?_ )
  (first | apply r_ret () | apply r_end ()); exact rfl; exact rfl; exact (.tmp rfl .nil); exact rfl; exact (List.nil_sublist _); exact new_nil; exact trivial
set_option maxRecDepth 100000 in
set_option maxHeartbeats 4000000 in
theorem sover_tt (gs : Nat) (at_ : Bool) (ga gb gd fra frb room : Nat) (ha hb : Hd) (sa sb : Value) (w : World) (hS : Has [.blk gs (.cells (stC at_ ga gb) 56 (0, 0)), LgB ga gd fra room ha sa true, LgB gb gd frb room hb sb true] w) : CA Tryz.prog 18 [.pointer (some ⟨gs, 0, none⟩)] w (RV (.bool true) w) := by
  refine enter (L := [.blk gs (.cells (stC at_ ga gb) 56 (0, 0)), LgB ga gd fra room ha sa true, LgB gb gd frb room hb sb true]) (X := []) Tryz.func18 rfl Tryz.ntmps18 rfl rfl hS ?_
  repeat (first | refine c_seq ?_ | (refine c_region (id := 0) ?_; refine sq qa ?_; refine l_nil ?_) | (refine c_region (id := 1) ?_; refine sq qm ?_; refine se ?_; refine ecp rfl rfl (fun w hC hm hL => by exact slog_c at_ gs ga gb w (hL.old (k := 3) (by (repeat (first | exact List.Mem.head _ | apply List.Mem.tail))) (by cases at_ <;> rfl))) ?_; intro m' hm'; refine se ?_; refine ecp rfl rfl (fun w hC hm hL => by first | exact lover_c ga gd fra room ha sa true w (hL.sub (by (repeat (first | exact List.nil_sublist _ | exact List.Sublist.slnil | apply List.Sublist.cons_cons | exact List.Sublist.refl _ | apply List.Sublist.cons)))) | exact lover_c gb gd frb room hb sb true w (hL.sub (by (repeat (first | exact List.nil_sublist _ | exact List.Sublist.slnil | apply List.Sublist.cons_cons | exact List.Sublist.refl _ | apply List.Sublist.cons))))) ?_; intro m' hm'; refine sq qm ?_; (first | refine sk ?_ | refine skv ?_ | (refine st_want rfl rfl ?_; refine sq qm ?_)); (first | refine sk ?_ | refine skv ?_ | (refine st_want rfl rfl ?_; refine se ?_; refine ecp rfl rfl (fun w hC hm hL => by exact soth_c at_ gs ga gb w (hL.old (k := 3) (by (repeat (first | exact List.Mem.head _ | apply List.Mem.tail))) (by cases at_ <;> rfl))) ?_; intro m' hm')); (first | refine sk ?_ | refine skv ?_ | (refine st_want rfl rfl ?_; refine se ?_; refine ecp rfl rfl (fun w hC hm hL => by first | exact lover_c ga gd fra room ha sa true w (hL.sub (by (repeat (first | exact List.nil_sublist _ | exact List.Sublist.slnil | apply List.Sublist.cons_cons | exact List.Sublist.refl _ | apply List.Sublist.cons)))) | exact lover_c gb gd frb room hb sb true w (hL.sub (by (repeat (first | exact List.nil_sublist _ | exact List.Sublist.slnil | apply List.Sublist.cons_cons | exact List.Sublist.refl _ | apply List.Sublist.cons))))) ?_; intro m' hm')); refine sq (by first | exact qpt | exact qpf) ?_; refine sq qa ?_; refine l_nil ?_) | refine n_then ?_ | refine c_block ?_ | refine c_skip ?_ | refine n_block ?_ | refine c_exit ?_ | refine n_then_exit ?_ | refine n_block_eq ?_ | refine n_block_ne rfl ?_ | refine c_ret ?_ | refine n_then_ret ?_ | refine n_block_ret ?_ | refine c_cond_t rfl ?_ | refine c_cond_f rfl ?_ | refine r_succ ?_ )
  (first | apply r_ret () | apply r_end ()); exact rfl; exact rfl; exact (.tmp rfl .nil); exact rfl; exact (List.nil_sublist _); exact new_nil; exact trivial
theorem sover_g (gs : Nat) (at_ : Bool) (ga gb gd fra frb room : Nat) (ha hb : Hd) (sa sb : Value) (ova ovb : Bool) (w : World) (hS : Has [.blk gs (.cells (stC at_ ga gb) 56 (0, 0)), LgB ga gd fra room ha sa ova, LgB gb gd frb room hb sb ovb] w) : CA Tryz.prog 18 [.pointer (some ⟨gs, 0, none⟩)] w (RV (.bool (ova || ovb)) w) := by
  cases ova <;> cases ovb
  · exact sover_ff gs at_ ga gb gd fra frb room ha hb sa sb w hS
  · exact sover_ft gs at_ ga gb gd fra frb room ha hb sa sb w hS
  · exact sover_tf gs at_ ga gb gd fra frb room ha hb sa sb w hS
  · exact sover_tt gs at_ ga gb gd fra frb room ha hb sa sb w hS
set_option maxRecDepth 100000 in
set_option maxHeartbeats 4000000 in
theorem packed_over (gs : Nat) (at_ : Bool) (ga gb gd fra frb room : Nat) (ha hb : Hd) (sa sb : Value) (ova ovb : Bool) (hov : (ova || ovb) = true) (a1 : Option Addr) (n1 c1 : Nat) (rm : Int) (A : Nat → Addr) (w : World) (hS : Has [.blk gs (.cells (stC at_ ga gb) 56 (0, 0)), LgB ga gd fra room ha sa ova, LgB gb gd frb room hb sb ovb] w) (hE : EK A w) : CA Tryz.prog 26 [.pointer (some ⟨gs, 0, none⟩), .slice a1 n1 c1, .int .i64 rm] w (Ret (fun z : Nat => .tuple #[.slice none 0 0, .iface 89 (.pointer (some ⟨z, 0, none⟩))]) [] (fun z => [.blk z (.cells #[.string { data := #[112, 97, 99, 107] }, .iface 164 (.pointer (some (A 3)))] 91 (0, 0))]) (fun _ => True) w) := by
  refine enter (L := [.blk gs (.cells (stC at_ ga gb) 56 (0, 0)), LgB ga gd fra room ha sa ova, LgB gb gd frb room hb sb ovb]) (X := []) Tryz.func26 rfl Tryz.ntmps26 rfl rfl hS ?_
  repeat (first | refine c_seq ?_ | (refine c_region (id := 0) ?_; refine sq qa ?_; refine sq qa ?_; refine l_nil ?_) | (refine c_region (id := 1) ?_; refine sq qm ?_; refine se ?_; refine ecp rfl rfl (fun w hC hm hL => by have h9 := sover_g gs at_ ga gb gd fra frb room ha hb sa sb ova ovb w (hL.sub (by (repeat (first | exact List.nil_sublist _ | exact List.Sublist.slnil | apply List.Sublist.cons_cons | exact List.Sublist.refl _ | apply List.Sublist.cons)))); rw [hov] at h9; exact h9) ?_; intro m' hm'; refine l_nil ?_) | (refine x_region (id := 2) none [(0, .q), (1, .n), (4, .n), (2, .e), (3, .n), (5, .n)] _ mixed (by kernel_rfl) (List.Sublist.refl _) ?_; refine xq rfl (by exact ql (hr := Rd.oldn (j := 0) (hE.g 3 (by omega)) (by rfl) (by simp))) ?_; refine xn rfl qbs ?_; refine xn rfl qa ?_; refine x_e rfl ?_; refine eb ?_; refine xk ?_; refine xn rfl q_mkI ?_; refine xn rfl qa ?_; refine x_nil ?_) | refine n_then ?_ | refine c_block ?_ | refine c_skip ?_ | refine n_block ?_ | refine c_exit ?_ | refine n_then_exit ?_ | refine n_block_eq ?_ | refine n_block_ne rfl ?_ | refine c_ret ?_ | refine n_then_ret ?_ | refine n_block_ret ?_ | refine c_cond_t rfl ?_ | refine c_cond_f rfl ?_ | refine r_succ ?_ )
  (first | apply r_ret m' | apply r_end m'); exact rfl; exact rfl; exact (.tmp rfl (.tmp rfl .nil)); exact rfl; exact (by exact (by (repeat (first | exact List.nil_sublist _ | exact List.Sublist.slnil | apply List.Sublist.cons_cons | exact List.Sublist.refl _ | apply List.Sublist.cons)))); exact (new_blk (.inr (by omega)) new_nil); exact trivial
set_option maxRecDepth 100000 in
set_option maxHeartbeats 4000000 in
theorem sroom_g (gs : Nat) (at_ : Bool) (ga gb gd fra room : Nat) (ha : Hd) (ba : Option Addr) (n ca : Nat) (ov : Bool) (hr : n ≤ room ∧ room ≤ 100000000) (w : World) (hO : Old w gs 0 (stC at_ ga gb).toList) (hL0 : Has [LgB ga gd fra room ha (.slice ba n ca) ov] w) : CA Tryz.prog 16 [.pointer (some ⟨gs, 0, none⟩)] w (RV (.int .i64 ((room : Int) - n)) w) := by
  refine enter (L := [LgB ga gd fra room ha (.slice ba n ca) ov]) (X := []) Tryz.func16 rfl Tryz.ntmps16 rfl rfl hL0 ?_
  repeat (first | refine c_seq ?_ | (refine c_region (id := 0) ?_; refine sq qa ?_; refine l_nil ?_) | (refine c_region (id := 1) ?_; refine sq qm ?_; refine se ?_; refine ecp rfl rfl (fun w hC hm hL => by exact slog_c at_ gs ga gb w (hO.ch hC (by simp))) ?_; intro m' hm'; refine se ?_; refine ecp rfl rfl (fun w hC hm hL => by exact room_c ga gd fra room ha ba n ca ov hr w (hL.sub (by (repeat (first | exact List.nil_sublist _ | exact List.Sublist.slnil | apply List.Sublist.cons_cons | exact List.Sublist.refl _ | apply List.Sublist.cons))))) ?_; intro m' hm'; refine sq qa ?_; refine l_nil ?_) | refine n_then ?_ | refine c_block ?_ | refine c_skip ?_ | refine n_block ?_ | refine c_exit ?_ | refine n_then_exit ?_ | refine n_block_eq ?_ | refine n_block_ne rfl ?_ | refine c_ret ?_ | refine n_then_ret ?_ | refine n_block_ret ?_ | refine c_cond_t rfl ?_ | refine c_cond_f rfl ?_ | refine r_succ ?_ )
  (first | apply r_ret () | apply r_end ()); exact rfl; exact rfl; exact (.tmp rfl .nil); exact rfl; exact (List.nil_sublist _); exact new_nil; exact trivial
set_option maxRecDepth 100000 in
set_option maxHeartbeats 4000000 in
theorem add_n (gs : Nat) (at_ : Bool) (ga : Nat) (ba : Option Addr) (ca : Nat) (ha : Hd) (bsa : List Int) (fra gb : Nat) (bb : Option Addr) (cb : Nat) (hb : Hd) (bsb : List Int) (frb room gd : Nat) (gw gm : Nat) (D : Dk) (nd : Nat) (hok : D.OK nd) (hbka : BK ba ca bsa.length) (hla : bsa.length ≤ room) (hroom : room ≤ 60000) (hfit : fra + 2 + (room + 63) / 64 ≤ nd) (hse : 0 ≤ ha.ser ∧ ha.ser < 4611686018427387904) (ap : Option Addr) (cp0 : Nat) (ps : List CPrt) (hps4 : ∀ p ∈ ps, p.len ≤ 4096) (hfp : bsa.length + (packL ps).length ≤ room) (hpn : ps.length ≤ 1000000) (h1 : Hd) (pp : Nat) (hpp : (pp : Int) = h1.ser % 2) (hs1 : h1.ser = ha.ser + 1) (hc1 : h1.cnt = (bsa ++ packL ps).length) (hnt1 : h1.nt = ha.nt) (r : Bool × Dk) (hr : r = appR fra pp h1 bsa (packL ps) D) (hrt : r.1 = false) (A : Nat → Addr) (w : World) (hE : EK A w) (hEX : ∀ g ∈ (feet (LogL ga gd gw gm fra room ha ba ca bsa D)), 4 < g ∧ ∀ i, i < 5 → (A i).block ≠ g) (hS : Has (StD gs at_ ga ba ca ha bsa fra gb bb cb hb bsb frb room gd gw gm D) w) (hps : ∀ p ∈ ps, p.Ok w) (hO : SlE CPrt.v w ap ps) (hpx : ∀ p ∈ ps, ∀ g o, p.a = some ⟨g, o, none⟩ → 0 < p.xs.length → g ∉ (feet (LogL ga gd gw gm fra room ha ba ca bsa D))) (hox : ∀ g o, ap = some ⟨g, o, none⟩ → 0 < ps.length → g ∉ (feet (LogL ga gd gw gm fra room ha ba ca bsa D))) (hne : 0 < ps.length) :
    CA Tryz.prog 10 [.pointer (some ⟨gs, 0, none⟩), .slice ap ps.length cp0] w (Ret (fun _ : Unit => .int .i64 5) (feet (LogL ga gd gw gm fra room ha ba ca bsa D)) (fun z => .sl ba ca 5 1 ((bsa).map (Value.int .u8)) :: LgB ga gd fra room ha (.slice ba bsa.length ca) true :: DskL gd gw gm r.2) (fun _ => True) w) := by
  refine enter (L := (StD gs at_ ga ba ca ha bsa fra gb bb cb hb bsb frb room gd gw gm D)) (X := (feet (LogL ga gd gw gm fra room ha ba ca bsa D))) Tryz.func10 rfl Tryz.ntmps10 rfl rfl hS ?_
  repeat (first | refine c_seq ?_ | (refine c_region (id := 0) ?_; refine sq qa ?_; refine l_nil ?_) | (refine c_region (id := 1) ?_; refine sq qm ?_; refine sq qm ?_; refine sq qm ?_; refine se ?_; refine ecp rfl rfl (fun w hC hm hL => by have h9 := sroom_c gs at_ ga ba ca ha bsa fra gb bb cb hb bsb frb room gd ⟨hla, by omega⟩ w (hL.sub (by (repeat (first | exact List.nil_sublist _ | exact List.Sublist.slnil | apply List.Sublist.cons_cons | exact List.Sublist.refl _ | apply List.Sublist.cons)))); rw [show ((room : Int) - bsa.length) = ((room - bsa.length : Nat) : Int) by omega] at h9; exact h9) ?_; intro m' hm'; refine se ?_; refine ecl rfl rfl (fun w hC hm hL => by exact packed_ok gs at_ ga ba ca ha bsa fra gb bb cb hb bsb frb room gd ap cp0 ps (room - bsa.length) (by omega) hps4 (by omega) (by omega) w (hL.sub (by (repeat (first | exact List.nil_sublist _ | exact List.Sublist.slnil | apply List.Sublist.cons_cons | exact List.Sublist.refl _ | apply List.Sublist.cons)))) (fun p hp => (hps p hp).chn hC (fun g o e hl => hpx p hp g o e hl)) (hO.chn hC hox)) ?_; intro z5 m5 hz5 hn5 hm5; obtain ⟨b5, cap5⟩ := z5; dsimp only at hz5 ⊢; refine sq qm ?_; refine sq qe ?_; refine sq qe ?_; refine sq qa ?_; refine sq qa ?_; refine l_nil ?_) | (refine c_region (id := 2) ?_; refine sq qm ?_; refine sq (by exact q_neq_nn (hx := rfl)) ?_; refine l_nil ?_) | (refine c_region (id := 4) ?_; refine sq qm ?_; refine sq qls ?_; refine sq (by first | exact deqlt | exact deqlf) ?_; refine sq qm ?_; (first | refine sk ?_ | refine skv ?_ | (refine st_want rfl rfl ?_; refine sq qm ?_)); (first | refine sk ?_ | refine skv ?_ | (refine st_want rfl rfl ?_; refine se ?_; refine ecp rfl rfl (fun w hC hm hL => by exact slog_c at_ gs ga gb w (hL.old (k := 3) (by (repeat (first | exact List.Mem.head _ | apply List.Mem.tail))) (by cases at_ <;> rfl))) ?_; intro m' hm')); (first | refine sk ?_ | refine skv ?_ | (refine st_want rfl rfl ?_; refine se ?_; fail)); (first | refine sk ?_ | refine skv ?_ | (refine st_want rfl rfl ?_; refine sq (by first | exact dlsst | exact dlssf) ?_)); refine sq (by first | exact qpt | exact qpf) ?_; refine l_nil ?_) | refine n_then ?_ | refine c_block ?_ | refine c_skip ?_ | refine n_block ?_ | refine c_exit ?_ | refine n_then_exit ?_ | refine n_block_eq ?_ | refine n_block_ne rfl ?_ | refine c_ret ?_ | refine n_then_ret ?_ | refine n_block_ret ?_ | refine c_cond_t rfl ?_ | refine c_cond_f rfl ?_ | refine r_succ ?_ )
  repeat (first | refine c_seq ?_ | (refine c_region (id := 6) ?_; refine sq qm ?_; refine se ?_; refine ecp rfl rfl (fun w hC hm hL => by exact slog_c at_ gs ga gb w (hL.old (k := 3) (by (repeat (first | exact List.Mem.head _ | apply List.Mem.tail))) (by cases at_ <;> rfl))) ?_; intro m' hm'; refine sq qm ?_; refine sq qm ?_; refine se ?_; refine ecp rfl rfl (fun w hC hm hL => by exact slog_c at_ gs ga gb w (hL.old (k := 3) (by (repeat (first | exact List.Mem.head _ | apply List.Mem.tail))) (by cases at_ <;> rfl))) ?_; intro m' hm'; refine se ?_; refine ecp rfl rfl (fun w hC hm hL => by exact note_c ga gd fra room ha _ false w (hL.sub (by (repeat (first | exact List.nil_sublist _ | exact List.Sublist.slnil | apply List.Sublist.cons_cons | exact List.Sublist.refl _ | apply List.Sublist.cons))))) ?_; intro m' hm'; refine se ?_; refine e_callX (LogL ga gd gw gm fra room ha ba ca bsa D) _ rfl rfl (by kernel_rfl) rfl (by (repeat (first | exact Sp.nil | (apply Sp.cons; focus (repeat (first | exact Rm.here | apply Rm.there)))))) (fun w hC hm hA hL hap => by have h9 := append_k ga gd gw gm fra room ha h1 ba ca bsa D nd hok (os_log hbka.1 hbka.2.1 hbka.2.2) hla (by omega) hfit ⟨hse.1, hse.2⟩ pp hpp hs1 b5 (packL ps).length cap5 (packL ps) hc1 rfl (by omega) (SlE.own hL (by (repeat (first | exact List.Mem.head _ | apply List.Mem.tail))) (os_bk hz5)) (fun g o e _ => apart_sl (by (repeat (first | exact List.Mem.head _ | apply List.Mem.tail))) hap g o e) r hr hrt hA; rw [hnt1] at h9; exact h9) (fun g hg => .inl hg) (fun _ => rfl) ?_; intro _ m6 _ _ hm6; refine se ?_; refine ecl rfl rfl (fun w hC hm hL => by exact failed_errLost A _ w (hE.chx hC hEX)) ?_; intro z7 m7 _ hn7 hm7; refine se ?_; refine ecp rfl rfl (fun w hC hm hL => by exact told_errLost A _ z7 w (hE.chx hC hEX) (hL.old (k := 2) (by (repeat (first | exact List.Mem.head _ | apply List.Mem.tail))) (by rfl))) ?_; intro m' hm'; refine sq qa ?_; refine l_nil ?_) | refine n_then ?_ | refine c_block ?_ | refine c_skip ?_ | refine n_block ?_ | refine c_exit ?_ | refine n_then_exit ?_ | refine n_block_eq ?_ | refine n_block_ne rfl ?_ | refine c_ret ?_ | refine n_then_ret ?_ | refine n_block_ret ?_ | refine c_cond_t rfl ?_ | refine c_cond_f rfl ?_ | refine r_succ ?_ )
  refine fgs (A := .sl ba ca 5 1 ((bsa).map (Value.int .u8)) :: LgB ga gd fra room ha (.slice ba bsa.length ca) true :: DskL gd gw gm r.2) (by (repeat (first | exact Sp.nil | (apply Sp.cons; focus (repeat (first | exact Rm.here | apply Rm.there)))))) ?_
  (first | apply r_ret () | apply r_end ()); exact rfl; exact rfl; exact (.tmp rfl .nil); exact rfl; exact (List.Sublist.refl _); exact (by intro g hg; exact .inl (by simpa [feet, Chunk.foot] using hg)); exact trivial
set_option maxRecDepth 100000 in
set_option maxHeartbeats 4000000 in
theorem compact_n1 (gs : Nat) (at_ : Bool) (ga : Nat) (ba : Option Addr) (ca : Nat) (ha : Hd) (bsa : List Int) (fra gb : Nat) (bb : Option Addr) (cb : Nat) (hb : Hd) (bsb : List Int) (frb room gd : Nat) (gw gm : Nat) (D : Dk) (nd : Nat) (hok : D.OK nd) (hbka : BK ba ca bsa.length) (hla : bsa.length ≤ room) (hroom : room ≤ 60000) (hfit : frb + 2 + (room + 63) / 64 ≤ nd) (hsa : 0 ≤ ha.ser ∧ ha.ser < 4611686018427387902) (hsb : 0 ≤ hb.ser ∧ hb.ser < 4611686018427387902) (gen : Nat) (hgen : genH ha = gen) (hg9 : gen < 4611686018427387902) (hKa : RB ha.nt) (ap : Option Addr) (cp0 : Nat) (ps : List CPrt) (hps4 : ∀ p ∈ ps, p.len ≤ 4096) (hfp : (packL ps).length ≤ room) (hpn : ps.length ≤ 1000000) (h1 : Hd) (hh1 : h1 = ⟨hb.ser + 1, ((0 : Nat) : Int), hb.nt⟩) (pp : Nat) (hpp : (pp : Int) = h1.ser % 2) (r1 : Bool × Dk) (hr1 : r1 = wrAll [(frb + pp, secH h1)] D) (hrt1 : r1.1 = false) (A : Nat → Addr) (hEX : ∀ g ∈ [gs, gb, gd, gw, gm], 4 < g ∧ ∀ i, i < 5 → (A i).block ≠ g) (w : World) (hE : EK A w) (hS : Has (StD gs at_ ga ba ca ha bsa fra gb bb cb hb bsb frb room gd gw gm D) w) (hps : ∀ p ∈ ps, p.Ok w) (hO : SlE CPrt.v w ap ps) (hpx : ∀ p ∈ ps, ∀ g o, p.a = some ⟨g, o, none⟩ → 0 < p.xs.length → g ∉ [gs, gb, gd, gw, gm]) (hox : ∀ g o, ap = some ⟨g, o, none⟩ → 0 < ps.length → g ∉ [gs, gb, gd, gw, gm]) :
    CA Tryz.prog 12 [.pointer (some ⟨gs, 0, none⟩), .slice ap ps.length cp0] w (Ret (fun _ : Unit => .int .i64 5) [gs, gb, gd, gw, gm] (fun _ => .blk gs (.cells (stC at_ ga gb) 56 (0, 0)) :: LgB gb gd frb room hb (.slice bb bsb.length cb) true :: DskL gd gw gm r1.2) (fun _ => True) w) := by
  have hnd := hok.n9
  refine enter (L := (StD gs at_ ga ba ca ha bsa fra gb bb cb hb bsb frb room gd gw gm D)) (X := [gs, gb, gd, gw, gm]) Tryz.func12 rfl Tryz.ntmps12 rfl rfl hS ?_
  repeat (first | refine c_seq ?_ | (refine c_region (id := 0) ?_; refine sq qa ?_; refine l_nil ?_) | (refine c_region (id := 1) ?_; refine sq qm ?_; refine se ?_; refine ecp rfl rfl (fun w hC hm hL => by exact soth_c at_ gs ga gb w (hL.old (k := 3) (by (repeat (first | exact List.Mem.head _ | apply List.Mem.tail))) (by cases at_ <;> rfl))) ?_; intro m' hm'; refine sq qa ?_; refine l_nil ?_) | (refine c_region (id := 2) ?_; refine sq qm ?_; refine sq qm ?_; refine sq qm ?_; refine se ?_; refine ecp rfl rfl (fun w hC hm hL => by have h9 := sroom_c gs at_ ga ba ca ha bsa fra gb bb cb hb bsb frb room gd ⟨hla, by omega⟩ w (hL.sub (by (repeat (first | exact List.nil_sublist _ | exact List.Sublist.slnil | apply List.Sublist.cons_cons | exact List.Sublist.refl _ | apply List.Sublist.cons)))); rw [show ((room : Int) - bsa.length) = ((room - bsa.length : Nat) : Int) by omega] at h9; exact h9) ?_; intro m' hm'; refine sq qm ?_; refine se ?_; refine ecp rfl rfl (fun w hC hm hL => by exact slog_c at_ gs ga gb w (hL.old (k := 3) (by (repeat (first | exact List.Mem.head _ | apply List.Mem.tail))) (by cases at_ <;> rfl))) ?_; intro m' hm'; refine se ?_; refine e_callL (enc := (Value.int .u8)) (e := 5) rfl rfl (by kernel_rfl) rfl (fun w hC hm hL => by exact lbytes_c ga gd fra room ha ba ca false bsa (by omega) w (SlE.own hL (by (repeat (first | exact List.Mem.head _ | apply List.Mem.tail))) (os_bk hbka)) (hL.sub (by (repeat (first | exact List.nil_sublist _ | exact List.Sublist.slnil | apply List.Sublist.cons_cons | exact List.Sublist.refl _ | apply List.Sublist.cons))))) ?_; intro b6 cap6 zs6 m6 hz6 ho6 hm6; rw [hz6]; refine sq qls ?_; refine sq (by exact Qt.cast (v' := .int .i64 ((room : Nat) : Int)) (congrArg (Value.int .i64) (by omega)) (q_add64 rfl rfl ⟨by omega, by omega⟩ rfl)) ?_; refine se ?_; refine ecl rfl rfl (fun w hC hm hL => by exact packed_ok gs at_ ga ba ca ha bsa fra gb bb cb hb bsb frb room gd ap cp0 ps room hroom hps4 hfp hpn w (hL.sub (by (repeat (first | exact List.nil_sublist _ | exact List.Sublist.slnil | apply List.Sublist.cons_cons | exact List.Sublist.refl _ | apply List.Sublist.cons)))) (fun p hp => (hps p hp).chn hC (fun g o e hl => hpx p hp g o e hl)) (hO.chn hC hox)) ?_; intro z5 m5 hz5 hn5 hm5; obtain ⟨b5, cap5⟩ := z5; dsimp only at hz5 ⊢; refine sq qm ?_; refine sq qe ?_; refine sq qe ?_; refine sq qa ?_; refine sq qa ?_; refine l_nil ?_) | (refine c_region (id := 3) ?_; refine sq qm ?_; refine sq (by exact q_neq_nn (hx := rfl)) ?_; refine l_nil ?_) | (refine c_region (id := 5) ?_; refine sq qm ?_; refine se ?_; refine ecp rfl rfl (fun w hC hm hL => by exact slog_c at_ gs ga gb w (hL.old (k := 3) (by (repeat (first | exact List.Mem.head _ | apply List.Mem.tail))) (by cases at_ <;> rfl))) ?_; intro m' hm'; refine se ?_; refine ecp rfl rfl (fun w hC hm hL => by first | exact serial_c ga gd fra room ha _ false w (hL.sub (by (repeat (first | exact List.nil_sublist _ | exact List.Sublist.slnil | apply List.Sublist.cons_cons | exact List.Sublist.refl _ | apply List.Sublist.cons)))) | exact serial_c gb gd frb room hb _ false w (hL.sub (by (repeat (first | exact List.nil_sublist _ | exact List.Sublist.slnil | apply List.Sublist.cons_cons | exact List.Sublist.refl _ | apply List.Sublist.cons))))) ?_; intro m' hm'; refine sq qm ?_; refine se ?_; refine ecp rfl rfl (fun w hC hm hL => by first | exact serial_c ga gd fra room ha _ false w (hL.sub (by (repeat (first | exact List.nil_sublist _ | exact List.Sublist.slnil | apply List.Sublist.cons_cons | exact List.Sublist.refl _ | apply List.Sublist.cons)))) | exact serial_c gb gd frb room hb _ false w (hL.sub (by (repeat (first | exact List.nil_sublist _ | exact List.Sublist.slnil | apply List.Sublist.cons_cons | exact List.Sublist.refl _ | apply List.Sublist.cons))))) ?_; intro m' hm'; refine sq qm ?_; refine se ?_; refine ecp rfl rfl (fun w hC hm hL => by have h9 := sgen_c gs at_ ga ba ca ha bsa fra gb bb cb hb bsb frb room gd hKa w (hL.sub (by (repeat (first | exact List.nil_sublist _ | exact List.Sublist.slnil | apply List.Sublist.cons_cons | exact List.Sublist.refl _ | apply List.Sublist.cons)))); rw [hgen] at h9; exact h9) ?_; intro m' hm'; refine sq (by exact q_max3 rfl rfl rfl) ?_; refine sq (by exact Qt.cast (v' := .bool false) (congrArg Value.bool (by rw [decide_eq_false_iff_not]; split <;> split <;> omega)) (q_geq rfl rfl)) ?_; refine l_nil ?_) | refine n_then ?_ | refine c_block ?_ | refine c_skip ?_ | refine n_block ?_ | refine c_exit ?_ | refine n_then_exit ?_ | refine n_block_eq ?_ | refine n_block_ne rfl ?_ | refine c_ret ?_ | refine n_then_ret ?_ | refine n_block_ret ?_ | refine c_cond_t rfl ?_ | refine c_cond_f rfl ?_ | refine r_succ ?_ )
  repeat (first | refine c_seq ?_ | (refine c_region (id := 7) ?_; refine sq qm ?_; refine se ?_; refine e_callX (LgB gb gd frb room hb (.slice bb bsb.length cb) false :: DskL gd gw gm D) _ rfl rfl (by kernel_rfl) rfl (by (repeat (first | exact Sp.nil | (apply Sp.cons; focus (repeat (first | exact Rm.here | apply Rm.there)))))) (fun w hC hm hA hL hap => by exact clear_n gb gd gw gm frb room hb h1 (.slice bb bsb.length cb) D nd hok ⟨by omega, by omega⟩ (by rw [hh1]) (by rw [hh1]) (by rw [hh1]) pp hpp (by omega) r1 hr1 hrt1 w hA) (by intro g hg; exact .inl (by simp [feet, Chunk.foot] at hg ⊢; rcases hg with h | h | h | h <;> simp [h])) (fun _ => rfl) ?_; intro _ m7 _ _ hm7; refine se ?_; refine ecl rfl rfl (fun w hC hm hL => by exact failed_errLost A _ w (hE.chx hC hEX)) ?_; intro z9 m9 _ hn9 hm9; refine sq qa ?_; refine l_nil ?_) | (refine c_region (id := 8) ?_; refine sq qm ?_; refine sq q_neq_in ?_; refine l_nil ?_) | (refine c_region (id := 9) ?_; refine sq qm ?_; refine se ?_; refine ecp rfl rfl (fun w hC hm hL => by exact told_errLost A _ z9 w (hE.chx hC hEX) (hL.old (k := 2) (by (repeat (first | exact List.Mem.head _ | apply List.Mem.tail))) (by rfl))) ?_; intro m' hm'; refine sq qa ?_; refine l_nil ?_) | refine n_then ?_ | refine c_block ?_ | refine c_skip ?_ | refine n_block ?_ | refine c_exit ?_ | refine n_then_exit ?_ | refine n_block_eq ?_ | refine n_block_ne rfl ?_ | refine c_ret ?_ | refine n_then_ret ?_ | refine n_block_ret ?_ | refine c_cond_t rfl ?_ | refine c_cond_f rfl ?_ | refine r_succ ?_ )
  refine fgs (A := .blk gs (.cells (stC at_ ga gb) 56 (0, 0)) :: LgB gb gd frb room hb (.slice bb bsb.length cb) true :: DskL gd gw gm r1.2) (by (repeat (first | exact Sp.nil | (apply Sp.cons; focus (repeat (first | exact Rm.here | apply Rm.there)))))) ?_
  (first | apply r_ret () | apply r_end ()); exact rfl; exact rfl; exact (.tmp rfl .nil); exact rfl; exact (List.Sublist.refl _); exact (by intro g hg; exact .inl (by simp [feet, Chunk.foot] at hg ⊢; rcases hg with h | h | h | h | h <;> simp [h])); exact trivial
set_option maxRecDepth 100000 in
set_option maxHeartbeats 4000000 in
theorem compact_n2 (gs : Nat) (at_ : Bool) (ga : Nat) (ba : Option Addr) (ca : Nat) (ha : Hd) (bsa : List Int) (fra gb : Nat) (bb : Option Addr) (cb : Nat) (hb : Hd) (bsb : List Int) (frb room gd : Nat) (gw gm : Nat) (D : Dk) (nd : Nat) (hok : D.OK nd) (hbka : BK ba ca bsa.length) (hla : bsa.length ≤ room) (hroom : room ≤ 60000) (hfit : frb + 2 + (room + 63) / 64 ≤ nd) (hsa : 0 ≤ ha.ser ∧ ha.ser < 4611686018427387902) (hsb : 0 ≤ hb.ser ∧ hb.ser < 4611686018427387902) (gen : Nat) (hgen : genH ha = gen) (hg9 : gen < 4611686018427387902) (hKa : RB ha.nt) (ap : Option Addr) (cp0 : Nat) (ps : List CPrt) (hps4 : ∀ p ∈ ps, p.len ≤ 4096) (hfp : (packL ps).length ≤ room) (hpn : ps.length ≤ 1000000) (h1 : Hd) (hh1 : h1 = ⟨hb.ser + 1, ((0 : Nat) : Int), hb.nt⟩) (pp : Nat) (hpp : (pp : Int) = h1.ser % 2) (r1 : Bool × Dk) (hr1 : r1 = wrAll [(frb + pp, secH h1)] D) (hrt1 : r1.1 = true) (hok1 : r1.2.OK nd) (h2 : Hd) (hh2 : h2 = ⟨h1.ser + 1, (([] : List Int) ++ packL ps).length, ntA ((gen : Int) + 1)⟩) (qq : Nat) (hqq : (qq : Int) = h2.ser % 2) (r2 : Bool × Dk) (hr2 : r2 = appR frb qq h2 [] (packL ps) r1.2) (hrt2 : r2.1 = false) (A : Nat → Addr) (hEX : ∀ g ∈ [gs, gb, gd, gw, gm], 4 < g ∧ ∀ i, i < 5 → (A i).block ≠ g) (w : World) (hE : EK A w) (hS : Has (StD gs at_ ga ba ca ha bsa fra gb bb cb hb bsb frb room gd gw gm D) w) (hps : ∀ p ∈ ps, p.Ok w) (hO : SlE CPrt.v w ap ps) (hpx : ∀ p ∈ ps, ∀ g o, p.a = some ⟨g, o, none⟩ → 0 < p.xs.length → g ∉ [gs, gb, gd, gw, gm]) (hox : ∀ g o, ap = some ⟨g, o, none⟩ → 0 < ps.length → g ∉ [gs, gb, gd, gw, gm]) :
    CA Tryz.prog 12 [.pointer (some ⟨gs, 0, none⟩), .slice ap ps.length cp0] w (Ret (fun _ : Unit => .int .i64 5) [gs, gb, gd, gw, gm] (fun _ => .blk gs (.cells (stC at_ ga gb) 56 (0, 0)) :: LgB gb gd frb room h1 (.slice none 0 0) true :: DskL gd gw gm r2.2) (fun _ => True) w) := by
  have hnd := hok.n9
  have hnt2 : h2.nt = ntA ((gen : Int) + 1) := by rw [hh2]
  refine enter (L := (StD gs at_ ga ba ca ha bsa fra gb bb cb hb bsb frb room gd gw gm D)) (X := [gs, gb, gd, gw, gm]) Tryz.func12 rfl Tryz.ntmps12 rfl rfl hS ?_
  repeat (first | refine c_seq ?_ | (refine c_region (id := 0) ?_; refine sq qa ?_; refine l_nil ?_) | (refine c_region (id := 1) ?_; refine sq qm ?_; refine se ?_; refine ecp rfl rfl (fun w hC hm hL => by exact soth_c at_ gs ga gb w (hL.old (k := 3) (by (repeat (first | exact List.Mem.head _ | apply List.Mem.tail))) (by cases at_ <;> rfl))) ?_; intro m' hm'; refine sq qa ?_; refine l_nil ?_) | (refine c_region (id := 2) ?_; refine sq qm ?_; refine sq qm ?_; refine sq qm ?_; refine se ?_; refine ecp rfl rfl (fun w hC hm hL => by have h9 := sroom_c gs at_ ga ba ca ha bsa fra gb bb cb hb bsb frb room gd ⟨hla, by omega⟩ w (hL.sub (by (repeat (first | exact List.nil_sublist _ | exact List.Sublist.slnil | apply List.Sublist.cons_cons | exact List.Sublist.refl _ | apply List.Sublist.cons)))); rw [show ((room : Int) - bsa.length) = ((room - bsa.length : Nat) : Int) by omega] at h9; exact h9) ?_; intro m' hm'; refine sq qm ?_; refine se ?_; refine ecp rfl rfl (fun w hC hm hL => by exact slog_c at_ gs ga gb w (hL.old (k := 3) (by (repeat (first | exact List.Mem.head _ | apply List.Mem.tail))) (by cases at_ <;> rfl))) ?_; intro m' hm'; refine se ?_; refine e_callL (enc := (Value.int .u8)) (e := 5) rfl rfl (by kernel_rfl) rfl (fun w hC hm hL => by exact lbytes_c ga gd fra room ha ba ca false bsa (by omega) w (SlE.own hL (by (repeat (first | exact List.Mem.head _ | apply List.Mem.tail))) (os_bk hbka)) (hL.sub (by (repeat (first | exact List.nil_sublist _ | exact List.Sublist.slnil | apply List.Sublist.cons_cons | exact List.Sublist.refl _ | apply List.Sublist.cons))))) ?_; intro b6 cap6 zs6 m6 hz6 ho6 hm6; rw [hz6]; refine sq qls ?_; refine sq (by exact Qt.cast (v' := .int .i64 ((room : Nat) : Int)) (congrArg (Value.int .i64) (by omega)) (q_add64 rfl rfl ⟨by omega, by omega⟩ rfl)) ?_; refine se ?_; refine ecl rfl rfl (fun w hC hm hL => by exact packed_ok gs at_ ga ba ca ha bsa fra gb bb cb hb bsb frb room gd ap cp0 ps room hroom hps4 hfp hpn w (hL.sub (by (repeat (first | exact List.nil_sublist _ | exact List.Sublist.slnil | apply List.Sublist.cons_cons | exact List.Sublist.refl _ | apply List.Sublist.cons)))) (fun p hp => (hps p hp).chn hC (fun g o e hl => hpx p hp g o e hl)) (hO.chn hC hox)) ?_; intro z5 m5 hz5 hn5 hm5; obtain ⟨b5, cap5⟩ := z5; dsimp only at hz5 ⊢; refine sq qm ?_; refine sq qe ?_; refine sq qe ?_; refine sq qa ?_; refine sq qa ?_; refine l_nil ?_) | (refine c_region (id := 3) ?_; refine sq qm ?_; refine sq (by exact q_neq_nn (hx := rfl)) ?_; refine l_nil ?_) | (refine c_region (id := 5) ?_; refine sq qm ?_; refine se ?_; refine ecp rfl rfl (fun w hC hm hL => by exact slog_c at_ gs ga gb w (hL.old (k := 3) (by (repeat (first | exact List.Mem.head _ | apply List.Mem.tail))) (by cases at_ <;> rfl))) ?_; intro m' hm'; refine se ?_; refine ecp rfl rfl (fun w hC hm hL => by first | exact serial_c ga gd fra room ha _ false w (hL.sub (by (repeat (first | exact List.nil_sublist _ | exact List.Sublist.slnil | apply List.Sublist.cons_cons | exact List.Sublist.refl _ | apply List.Sublist.cons)))) | exact serial_c gb gd frb room hb _ false w (hL.sub (by (repeat (first | exact List.nil_sublist _ | exact List.Sublist.slnil | apply List.Sublist.cons_cons | exact List.Sublist.refl _ | apply List.Sublist.cons))))) ?_; intro m' hm'; refine sq qm ?_; refine se ?_; refine ecp rfl rfl (fun w hC hm hL => by first | exact serial_c ga gd fra room ha _ false w (hL.sub (by (repeat (first | exact List.nil_sublist _ | exact List.Sublist.slnil | apply List.Sublist.cons_cons | exact List.Sublist.refl _ | apply List.Sublist.cons)))) | exact serial_c gb gd frb room hb _ false w (hL.sub (by (repeat (first | exact List.nil_sublist _ | exact List.Sublist.slnil | apply List.Sublist.cons_cons | exact List.Sublist.refl _ | apply List.Sublist.cons))))) ?_; intro m' hm'; refine sq qm ?_; refine se ?_; refine ecp rfl rfl (fun w hC hm hL => by have h9 := sgen_c gs at_ ga ba ca ha bsa fra gb bb cb hb bsb frb room gd hKa w (hL.sub (by (repeat (first | exact List.nil_sublist _ | exact List.Sublist.slnil | apply List.Sublist.cons_cons | exact List.Sublist.refl _ | apply List.Sublist.cons)))); rw [hgen] at h9; exact h9) ?_; intro m' hm'; refine sq (by exact q_max3 rfl rfl rfl) ?_; refine sq (by exact Qt.cast (v' := .bool false) (congrArg Value.bool (by rw [decide_eq_false_iff_not]; split <;> split <;> omega)) (q_geq rfl rfl)) ?_; refine l_nil ?_) | refine n_then ?_ | refine c_block ?_ | refine c_skip ?_ | refine n_block ?_ | refine c_exit ?_ | refine n_then_exit ?_ | refine n_block_eq ?_ | refine n_block_ne rfl ?_ | refine c_ret ?_ | refine n_then_ret ?_ | refine n_block_ret ?_ | refine c_cond_t rfl ?_ | refine c_cond_f rfl ?_ | refine r_succ ?_ )
  repeat (first | refine c_seq ?_ | (refine c_region (id := 7) ?_; refine sq qm ?_; refine se ?_; refine e_callX (LgB gb gd frb room hb (.slice bb bsb.length cb) false :: DskL gd gw gm D) _ rfl rfl (by kernel_rfl) rfl (by (repeat (first | exact Sp.nil | (apply Sp.cons; focus (repeat (first | exact Rm.here | apply Rm.there)))))) (fun w hC hm hA hL hap => by exact clear_y gb gd gw gm frb room hb h1 (.slice bb bsb.length cb) D nd hok ⟨by omega, by omega⟩ (by rw [hh1]) (by rw [hh1]) (by rw [hh1]) pp hpp (by omega) r1 hr1 hrt1 w hA) (by intro g hg; exact .inl (by simp [feet, Chunk.foot] at hg ⊢; rcases hg with h | h | h | h <;> simp [h])) (fun _ => rfl) ?_; intro _ m7 _ _ hm7; refine se ?_; refine ecp rfl rfl (fun w hC hm hL => by exact failed_ok _ w) ?_; intro m' hm'; refine sq qa ?_; refine l_nil ?_) | (refine c_region (id := 8) ?_; refine sq qm ?_; refine sq (by exact q_neq_nn (hx := rfl)) ?_; refine l_nil ?_) | refine n_then ?_ | refine c_block ?_ | refine c_skip ?_ | refine n_block ?_ | refine c_exit ?_ | refine n_then_exit ?_ | refine n_block_eq ?_ | refine n_block_ne rfl ?_ | refine c_ret ?_ | refine n_then_ret ?_ | refine n_block_ret ?_ | refine c_cond_t rfl ?_ | refine c_cond_f rfl ?_ | refine r_succ ?_ )
  repeat (first | refine c_seq ?_ | (refine c_region (id := 10) ?_; refine sq qm ?_; refine sq qm ?_; refine sq qm ?_; refine se ?_; refine ecp rfl rfl (fun w hC hm hL => by have h9 := sgen_x at_ gs ga gb gd fra room ha _ hKa w (hL.old (k := 3) (by (repeat (first | exact List.Mem.head _ | apply List.Mem.tail))) (by cases at_ <;> rfl)) (hL.sub (by (repeat (first | exact List.nil_sublist _ | exact List.Sublist.slnil | apply List.Sublist.cons_cons | exact List.Sublist.refl _ | apply List.Sublist.cons)))); rw [hgen] at h9; exact h9) ?_; intro m' hm'; refine sq (by exact Qt.cast (v' := .int .u64 ((gen : Int) + 1)) (congrArg (Value.int .u64) (by omega)) (q_addU rfl rfl)) ?_; refine se ?_; refine ecp rfl rfl (fun w hC hm hL => by exact noteof_c ((gen : Int) + 1) ⟨by omega, by omega⟩ w) ?_; intro m' hm'; refine se ?_; refine e_callX (LogL gb gd gw gm frb room h1 none 0 [] r1.2) _ rfl rfl (by kernel_rfl) rfl (by (repeat (first | exact Sp.nil | (apply Sp.cons; focus (repeat (first | exact Rm.here | apply Rm.there)))))) (fun w hC hm hA hL hap => by have h9 := append_n gb gd gw gm frb room h1 h2 none 0 [] r1.2 nd hok1 (os_log (Nat.le_refl _) (by simp) (.inl ⟨rfl, rfl⟩)) (by simp) (by omega) hfit ⟨by rw [hh1]; dsimp only; omega, by rw [hh1]; dsimp only; omega⟩ qq hqq (by rw [hh2]) b5 (packL ps).length cap5 (packL ps) (by rw [hh2]) rfl (by simp; omega) (SlE.own hL (by (repeat (first | exact List.Mem.head _ | apply List.Mem.tail))) (os_bk hz5)) (fun g o e _ => apart_sl (by (repeat (first | exact List.Mem.head _ | apply List.Mem.tail))) hap g o e) r2 hr2 hrt2 hA; rw [hnt2] at h9; exact h9) (by intro g hg; exact .inl (by simp [feet, Chunk.foot] at hg ⊢; rcases hg with h | h | h | h <;> simp [h])) (fun _ => rfl) ?_; intro _ m8 _ _ hm8; refine se ?_; refine ecl rfl rfl (fun w hC hm hL => by exact failed_errLost A _ w (hE.chx hC hEX)) ?_; intro z9 m9 _ hn9 hm9; refine sq qa ?_; refine l_nil ?_) | (refine c_region (id := 11) ?_; refine sq qm ?_; refine sq q_neq_in ?_; refine l_nil ?_) | (refine c_region (id := 12) ?_; refine sq qm ?_; refine se ?_; refine ecp rfl rfl (fun w hC hm hL => by exact told_errLost A _ z9 w (hE.chx hC hEX) (hL.old (k := 2) (by (repeat (first | exact List.Mem.head _ | apply List.Mem.tail))) (by rfl))) ?_; intro m' hm'; refine sq qa ?_; refine l_nil ?_) | refine n_then ?_ | refine c_block ?_ | refine c_skip ?_ | refine n_block ?_ | refine c_exit ?_ | refine n_then_exit ?_ | refine n_block_eq ?_ | refine n_block_ne rfl ?_ | refine c_ret ?_ | refine n_then_ret ?_ | refine n_block_ret ?_ | refine c_cond_t rfl ?_ | refine c_cond_f rfl ?_ | refine r_succ ?_ )
  refine fgs (A := .blk gs (.cells (stC at_ ga gb) 56 (0, 0)) :: LgB gb gd frb room h1 (.slice none 0 0) true :: DskL gd gw gm r2.2) (by (repeat (first | exact Sp.nil | (apply Sp.cons; focus (repeat (first | exact Rm.here | apply Rm.there)))))) ?_
  (first | apply r_ret () | apply r_end ()); exact rfl; exact rfl; exact (.tmp rfl .nil); exact rfl; exact (List.Sublist.refl _); exact (by intro g hg; exact .inl (by simp [feet, Chunk.foot] at hg ⊢; rcases hg with h | h | h | h | h <;> simp [h])); exact trivial
end Go.Proofs.YtgmghkakiocmjaaGreatDoor
namespace Go.Proofs.YtgmghkakiocmjaaGreatDoor
open Go Go.RowKit
set_option linter.unusedVariables false
set_option linter.unusedSimpArgs false
structure LSf (fr rm : Nat) (c : Int) (D : Dk) (h : Hd) (bs : List Int) (p : Nat) : Prop where
  hs : HS rm c (fun i => D.at (fr + i)) h p
  cnt : h.cnt = bs.length
  le : bs.length ≤ rm
  bytes : rmL (fun i => D.at (fr + i)) bs.length = bs
theorem LSf.lat {fr kn : Nat} {c : Int} {D : Dk} {h : Hd} {bs : List Int} {p : Nat} (hl : LSf fr ((kn - 2) * 64) c D h bs p) : LogAt D fr kn h bs := ⟨hl.hs.st, hl.cnt, hl.le, hl.bytes⟩
theorem head_outf {fr rm : Nat} {c : Int} {D : Dk} {h h' : Hd} {bs bs' : List Int} {p : Nat} (hM : D.M = []) (hlen : fr + 2 + (rm + 63) / 64 ≤ D.secs.length) (hs : HS rm c (fun i => D.at (fr + i)) h p) (hp : (p : Int) = h'.ser % 2) (hK : HdK h') (hser : h'.ser = h.ser + 1) (hs0 : 0 ≤ h.ser) (hcb : h.cnt = bs.length) (hle : bs.length ≤ rm) (hb : rmL (fun i => D.at (fr + i)) bs.length = bs) (hcb' : h'.cnt = bs'.length) (hle' : bs'.length ≤ rm) (hb' : rmL (fun i => D.at (fr + i)) bs'.length = bs') (fate : List Int) (hfc : c = fateN fate 0) :
    ((wrAll [(fr + p, secH h')] D).1 = true → LSf fr rm c ((wrAll [(fr + p, secH h')] D).2.crash fate) h' bs' (1 - p)) ∧ ((wrAll [(fr + p, secH h')] D).1 = false → LSf fr rm c ((wrAll [(fr + p, secH h')] D).2.crash fate) h bs p ∨ LSf fr rm c ((wrAll [(fr + p, secH h')] D).2.crash fate) h' bs' (1 - p)) := by
  have hp2 : p < 2 := by omega
  have hcr : h'.cnt ≤ (rm : Nat) := by rw [hcb']; exact_mod_cast hle'
  unfold wrAll
  by_cases hg : D.pgone = true
  · rw [if_pos hg]
    refine ⟨fun h9 => (by cases h9), fun _ => .inl ?_⟩
    have hat : ∀ j, (D.dead.crash fate).at j = D.at j := crash_at_nil (D := D.dead) hM fate
    have hfe : (fun i => (D.dead.crash fate).at (fr + i)) = fun i => D.at (fr + i) := by funext i; exact hat _
    exact ⟨by (try dsimp only); rw [hfe]; exact hs, hcb, hle, by (try dsimp only); rw [hfe]; exact hb⟩
  · rw [if_neg hg]
    dsimp only
    unfold wrAll Dk.sy
    by_cases hg1 : (D.lit.put (fr + p) (secH h')).pgone = true
    · rw [if_pos hg1]
      refine ⟨fun h9 => (by cases h9), fun _ => ?_⟩
      have hat := crash1_at hM (fr + p) (secH h') (by omega) fate
      rw [← hfc] at hat
      have hr : ∀ i, 2 ≤ i → (fun i => ((D.lit.put (fr + p) (secH h')).dead.crash fate).at (fr + i)) i = (fun i => D.at (fr + i)) i := fun i hi => by
        (try dsimp only); rw [hat, if_neg (by omega)]
      rcases hs.torn (Gs := fun i => ((D.lit.put (fr + p) (secH h')).dead.crash fate).at (fr + i)) hp hK hser hs0 hcr (fun j _ => by (try dsimp only); rw [hat, if_pos rfl]) (by (try dsimp only); rw [hat, if_neg (by omega)]) with k | k
      · exact .inl ⟨k, hcb, hle, by rw [rmL_cong hr]; exact hb⟩
      · exact .inr ⟨k, hcb', hle', by rw [rmL_cong hr]; exact hb'⟩
    · rw [if_neg hg1]
      refine ⟨fun _ => ?_, fun h9 => (by cases h9)⟩
      have hat : ∀ j, ((D.lit.put (fr + p) (secH h')).lit.still.crash fate).at j = if j = fr + p then secH h' else D.at j := fun j => by
        rw [crash_at_nil (D := (D.lit.put (fr + p) (secH h')).lit.still) rfl fate]
        exact put_at D (fr + p) j (secH h') (by omega)
      have hr : ∀ i, 2 ≤ i → (fun i => ((D.lit.put (fr + p) (secH h')).lit.still.crash fate).at (fr + i)) i = (fun i => D.at (fr + i)) i := fun i hi => by
        (try dsimp only); rw [hat, if_neg (by omega)]
      exact ⟨hs.whole hp hK hser hs0 hcr (fun j _ => by (try dsimp only); rw [hat, if_pos rfl]) (by (try dsimp only); rw [hat, if_neg (by omega)]), hcb', hle', by (try dsimp only); rw [rmL_cong hr]; exact hb'⟩
theorem app_outf {fr rm : Nat} {c : Int} {D : Dk} {h h' : Hd} {bs ys : List Int} {p : Nat} (hM : D.M = []) (hlen : fr + 2 + (rm + 63) / 64 ≤ D.secs.length) (hl : LSf fr rm c D h bs p) (hp : (p : Int) = h'.ser % 2) (hK : HdK h') (hser : h'.ser = h.ser + 1) (hs0 : 0 ≤ h.ser) (hcb' : h'.cnt = (bs ++ ys).length) (hle' : (bs ++ ys).length ≤ rm) (fate : List Int) (hfc : c = fateN fate 0) :
    ((appR fr p h' bs ys D).1 = true → LSf fr rm c ((appR fr p h' bs ys D).2.crash fate) h' (bs ++ ys) (1 - p)) ∧ ((appR fr p h' bs ys D).1 = false → LSf fr rm c ((appR fr p h' bs ys D).2.crash fate) h bs p ∨ LSf fr rm c ((appR fr p h' bs ys D).2.crash fate) h' (bs ++ ys) (1 - p)) := by
  have hp2 : p < 2 := by omega
  have hbs := rmL_get hl.bytes
  unfold appR
  by_cases hy : ys = []
  · subst hy
    rw [if_pos rfl]
    exact head_outf hM hlen hl.hs hp hK hser hs0 hl.cnt hl.le hl.bytes hcb' hle' (by rw [List.append_nil]; exact hl.bytes) fate hfc
  · rw [if_neg hy]
    have hal : (bs ++ ys).length = bs.length + ys.length := List.length_append
    have hlt := fun e he => rmW_lt (fr := fr) (xs := bs ++ ys) (((bs ++ ys).length + 63) / 64 - bs.length / 64) (bs.length / 64) e he
    cases hb : (wrAll (rmW fr (bs ++ ys) (((bs ++ ys).length + 63) / 64 - bs.length / 64) (bs.length / 64)) D).1 with
    | false =>
      rw [if_neg (by simp)]
      refine ⟨fun h9 => (by rw [hb] at h9; cases h9), fun _ => .inl ?_⟩
      have hpw := crash_Pw (wrAll_Pw (rmW fr (bs ++ ys) (((bs ++ ys).length + 63) / 64 - bs.length / 64) (bs.length / 64)) D (fun e he => ⟨he, by have := hlt e he; omega⟩) (Pw.refl _ hM)) fate
      have hh : ∀ i, i < 2 → ((wrAll (rmW fr (bs ++ ys) (((bs ++ ys).length + 63) / 64 - bs.length / 64) (bs.length / 64)) D).2.crash fate).at (fr + i) = D.at (fr + i) := fun i hi => by
        funext x
        rcases hpw (fr + i) x with k | ⟨e, he, k, _⟩
        · exact k
        · have := hlt e he; omega
      refine ⟨hl.hs.cong hp2 (hh p hp2) (hh _ (by omega)), hl.cnt, hl.le, rmL_ext fun q hq => ?_⟩
      try dsimp only
      rw [← hbs q hq]
      rcases hpw (fr + (2 + q / 64)) (q % 64) with k | ⟨e, he, k1, k2⟩
      · exact k
      · obtain ⟨t9, rfl⟩ := rmW_mem _ _ e he
        dsimp only at k1 k2
        have ht : t9 = q / 64 := by omega
        rw [k2, ht, hbs q hq]
        have e2 : 64 * (q / 64) + q % 64 = q := by omega
        simp only [secAt]
        rw [if_pos (by omega), e2, List.getElem?_append_left hq, List.getElem?_eq_getElem hq, Option.getD_some]
    | true =>
      rw [if_pos rfl]
      have hat := wrRoom_t fr (bs ++ ys) (((bs ++ ys).length + 63) / 64 - bs.length / 64) (bs.length / 64) D hb (by omega)
      have hM1 := wrAll_t _ _ hb
      have hl1 : (wrAll (rmW fr (bs ++ ys) (((bs ++ ys).length + 63) / 64 - bs.length / 64) (bs.length / 64)) D).2.secs.length = D.secs.length := by
        have : ∀ (l : List (Nat × (Nat → Int))) (D : Dk), (wrAll l D).2.secs.length = D.secs.length := by
          intro l
          induction l with
          | nil => intro D; unfold wrAll Dk.sy; split <;> rfl
          | cons e l ih =>
            intro D
            unfold wrAll
            split
            · rfl
            · rw [ih, put_slen]
        exact this _ _
      refine head_outf hM1 (by omega) (hl.hs.cong hp2 (by (try dsimp only); rw [hat, if_neg (by omega)]) (by (try dsimp only); rw [hat, if_neg (by omega)])) hp hK hser hs0 hl.cnt hl.le ?_ hcb' hle' ?_ fate hfc
      · refine rmL_ext fun q hq => ?_
        try dsimp only
        rw [hat, ← hbs q hq]
        by_cases e : fr + (2 + bs.length / 64) ≤ fr + (2 + q / 64)
        · rw [if_pos (by omega)]
          have e1 : fr + (2 + q / 64) - fr - 2 = q / 64 := by omega
          rw [e1, hbs q hq]
          have e2 : 64 * (q / 64) + q % 64 = q := by omega
          simp only [secAt]
          rw [if_pos (by omega), e2, List.getElem?_append_left hq, List.getElem?_eq_getElem hq, Option.getD_some]
        · rw [if_neg (by omega)]
      · refine rmL_ext fun q hq => ?_
        try dsimp only
        rw [hat]
        by_cases e : fr + (2 + bs.length / 64) ≤ fr + (2 + q / 64)
        · rw [if_pos (by omega)]
          have e1 : fr + (2 + q / 64) - fr - 2 = q / 64 := by omega
          rw [e1]
          have e2 : 64 * (q / 64) + q % 64 = q := by omega
          simp only [secAt]
          rw [if_pos (by omega), e2, List.getElem?_eq_getElem hq, Option.getD_some]
        · rw [if_neg (by omega)]
          have hq2 : q < bs.length := by omega
          rw [List.getElem_append_left hq2]
          exact hbs q hq2
theorem LSf.cong {fr rm : Nat} {c : Int} {D D' : Dk} {h : Hd} {bs : List Int} {p : Nat} (hl : LSf fr rm c D h bs p) (he : ∀ j, j < 2 + (rm + 63) / 64 → D'.at (fr + j) = D.at (fr + j)) (hp : p < 2) : LSf fr rm c D' h bs p := by
  have hle := hl.le
  refine ⟨hl.hs.cong hp (by (try dsimp only); exact he p (by omega)) (by (try dsimp only); exact he (1 - p) (by omega)), hl.cnt, hl.le, rmL_ext fun q hq => ?_⟩
  have h9 := rmL_get hl.bytes q hq
  try dsimp only at h9 ⊢
  rw [he _ (by omega)]
  exact h9
theorem wrAll_slen : ∀ (l : List (Nat × (Nat → Int))) (D : Dk), (wrAll l D).2.secs.length = D.secs.length
  | [], D => by unfold wrAll Dk.sy; split <;> rfl
  | e :: l, D => by
    unfold wrAll
    split
    · rfl
    · rw [wrAll_slen l, put_slen]
theorem wrAll_off {l : List (Nat × (Nat → Int))} {D : Dk} (h : ∀ e ∈ l, e.1 < D.secs.length) (hM : D.M = []) (j : Nat) (hj : ∀ e ∈ l, e.1 ≠ j) : (wrAll l D).2.at j = D.at j := by
  funext x
  rcases (wrAll_Pw l D (fun e he => ⟨he, h e he⟩) (Pw.refl _ hM)).s j x with k | ⟨e, he, k, _⟩
  · exact k
  · exact absurd k (hj e he)
theorem wrAll_offc {l : List (Nat × (Nat → Int))} {D : Dk} (h : ∀ e ∈ l, e.1 < D.secs.length) (hM : D.M = []) (fate : List Int) (j : Nat) (hj : ∀ e ∈ l, e.1 ≠ j) : ((wrAll l D).2.crash fate).at j = D.at j := by
  funext x
  rcases crash_Pw (wrAll_Pw l D (fun e he => ⟨he, h e he⟩) (Pw.refl _ hM)) fate j x with k | ⟨e, he, k, _⟩
  · exact k
  · exact absurd k (hj e he)
theorem appR_offc {fr p : Nat} {h' : Hd} {bs ys : List Int} {D : Dk} (hp : p < 2) (hfit : fr + 2 + ((bs ++ ys).length + 63) / 64 ≤ D.secs.length) (hM : D.M = []) (fate : List Int) (j : Nat) (hj : j < fr ∨ fr + 2 + ((bs ++ ys).length + 63) / 64 ≤ j) : ((appR fr p h' bs ys D).2.crash fate).at j = D.at j := by
  have hal : (bs ++ ys).length = bs.length + ys.length := List.length_append
  have hlt := fun e he => rmW_lt (fr := fr) (xs := bs ++ ys) (((bs ++ ys).length + 63) / 64 - bs.length / 64) (bs.length / 64) e he
  have key : ∀ D2 : Dk, D2.secs.length = D.secs.length → D2.M = [] → ((wrAll [(fr + p, secH h')] D2).2.crash fate).at j = D2.at j := fun D2 h1 h2 =>
    wrAll_offc (fun e he => by simp only [List.mem_singleton] at he; subst he; dsimp only; omega) h2 fate j (fun e he => by simp only [List.mem_singleton] at he; subst he; dsimp only; omega)
  unfold appR
  split
  · exact key D rfl hM
  · split
    · rename_i hy hb
      rw [key _ (wrAll_slen _ _) (wrAll_t _ _ hb)]
      exact wrAll_off (fun e he => by have := hlt e he; omega) hM j (fun e he => by have := hlt e he; omega)
    · exact wrAll_offc (fun e he => by have := hlt e he; omega) hM fate j (fun e he => by have := hlt e he; omega)
theorem LSf.burn {fr rm : Nat} {c : Int} {D : Dk} {h : Hd} {bs : List Int} {p : Nat} (hl : LSf fr rm c D h bs p) (n : Int) : LSf fr rm c (D.burn n) h bs p := ⟨hl.hs, hl.cnt, hl.le, hl.bytes⟩
theorem LSf.new (c : Int) (n fr rm : Nat) : LSf fr rm c (Dk.new n) hdZ [] 1 := by
  have hf : (fun i => (Dk.new n).at (fr + i)) = fun _ _ => 0 := by funext i; rw [Dk.new_at]
  refine ⟨⟨?_, ?_, fun _ => 0, fun _ => 0, fun j _ => rfl, fun j hj => ?_, ?_⟩, rfl, by simp, rfl⟩
  · rw [hf]; exact stI_zero _
  · (try dsimp only); rw [Dk.new_at]; exact fun j _ => rfl
  · (try dsimp only); rw [Dk.new_at, torn_self]
  · have hu : upd (fun i => (Dk.new n).at (fr + i)) 1 (fun _ => 0) = fun _ _ => 0 := by
      funext i; unfold upd; split
      · rfl
      · exact Dk.new_at n _
    rw [hu]; exact stI_zero _
structure SC (c : Int) (nd half i : Nat) (D : Dk) (at_ : Bool) (fra frb : Nat) (ha hb : Hd) (bsa bsb : List Int) (pa pb : Nat) (want : List (List Int)) (gen : Nat) : Prop where
  ok : D.OK nd
  fre : D.Free
  rg : RG D
  m : D.M = []
  fr : (at_ = false ∧ fra = 0 ∧ frb = half) ∨ (at_ = true ∧ fra = half ∧ frb = 0)
  la : LSf fra ((half - 2) * 64) c D ha bsa pa
  lb : LSf frb ((half - 2) * 64) c D hb bsb pb
  ka : HdK ha
  kb : HdK hb
  ser : ha.ser ≤ 2 * i ∧ hb.ser ≤ 2 * i
  ga : genH ha = gen
  gb : genH hb ≤ gen ∧ (at_ = true → genH hb < gen)
  gi : gen ≤ i
  ra : ∀ x ∈ bsa, 0 ≤ x ∧ x ≤ 255
  rb : ∀ x ∈ bsb, 0 ≤ x ∧ x ≤ 255
  pk : bsa = packX want
  w4 : ∀ x ∈ want, x.length ≤ 4096
  cl : D.cl ≤ 500 * i
  hpa : (pa : Int) = (ha.ser + 1) % 2
  hpb : (pb : Int) = (hb.ser + 1) % 2
theorem SC.new (c : Int) (nd half : Nat) (h : nd ≤ 16384) : SC c nd half 0 (Dk.new nd) false 0 half hdZ hdZ [] [] 1 1 [] 0 :=
  ⟨Dk.OK.new nd h, ⟨rfl, rfl⟩, RG.new nd, rfl, .inl ⟨rfl, rfl, rfl⟩, LSf.new c nd 0 _, LSf.new c nd half _, hdZ_K, hdZ_K, ⟨by decide, by decide⟩, rfl, ⟨by decide, fun h => by cases h⟩, Nat.le_refl _, by simp, by simp, rfl, by simp, Nat.zero_le _, rfl, rfl⟩
theorem SC.stay {c : Int} {nd half i : Nat} {D : Dk} {at_ : Bool} {fra frb : Nat} {ha hb : Hd} {bsa bsb : List Int} {pa pb : Nat} {want : List (List Int)} {gen : Nat} (hJ : SC c nd half i D at_ fra frb ha hb bsa bsb pa pb want gen) (n : Int) (hn : n ≤ 9223372036854775807) (fate : List Int) (h3 : 3 ≤ half) : SC c nd half (i + 1) ((D.burn n).crash fate) at_ fra frb ha hb bsa bsb pa pb want gen := by
  have hat : ∀ j, ((D.burn n).crash fate).at j = D.at j := fun j => by rw [crash_at_nil (D := D.burn n) hJ.m fate]; rfl
  have hpa := hJ.hpa
  have hpb := hJ.hpb
  exact ⟨(hJ.ok.burn hn).crash fate, crash_free _ _, (hJ.rg.burn n).crash fate, rfl, hJ.fr, hJ.la.cong (fun j _ => hat _) (by omega), hJ.lb.cong (fun j _ => hat _) (by omega), hJ.ka, hJ.kb, by have := hJ.ser; omega, hJ.ga, hJ.gb, by have := hJ.gi; omega, hJ.ra, hJ.rb, hJ.pk, hJ.w4, by show D.cl ≤ _; have := hJ.cl; omega, hpa, hpb⟩
theorem SC.add {c : Int} {nd half i : Nat} {D : Dk} {at_ : Bool} {fra frb : Nat} {ha hb : Hd} {bsa bsb : List Int} {pa pb : Nat} {want : List (List Int)} {gen : Nat} (hJ : SC c nd half i D at_ fra frb ha hb bsa bsb pa pb want gen) (h3 : 3 ≤ half) (hn : 2 * half ≤ nd) (hn9 : nd ≤ 500) (hi : i ≤ 100) (n : Int) (hnf : n ≤ 9223372036854775807) (fate : List Int) (hfc : c = fateN fate 0) (l : List (List Int)) (h4 : ∀ x ∈ l, x.length ≤ 4096) (hr : ∀ y ∈ l, ∀ x ∈ y, 0 ≤ x ∧ x ≤ 255) (hroom : bsa.length + (packX l).length ≤ (half - 2) * 64) (h1 : Hd) (hh : h1 = ⟨ha.ser + 1, (bsa ++ packX l).length, ha.nt⟩) :
    ((appR fra pa h1 bsa (packX l) (D.burn n)).1 = true → SC c nd half (i + 1) ((appR fra pa h1 bsa (packX l) (D.burn n)).2.crash fate) at_ fra frb h1 hb (bsa ++ packX l) bsb (1 - pa) pb (want ++ l) gen) ∧ ((appR fra pa h1 bsa (packX l) (D.burn n)).1 = false → SC c nd half (i + 1) ((appR fra pa h1 bsa (packX l) (D.burn n)).2.crash fate) at_ fra frb ha hb bsa bsb pa pb want gen ∨ SC c nd half (i + 1) ((appR fra pa h1 bsa (packX l) (D.burn n)).2.crash fate) at_ fra frb h1 hb (bsa ++ packX l) bsb (1 - pa) pb (want ++ l) gen) ∧ (appR fra pa h1 bsa (packX l) (D.burn n)).2.OK nd ∧ (appR fra pa h1 bsa (packX l) (D.burn n)).2.cl ≤ 500 * (i + 1) := by
  have hfr := hJ.fr
  have hser := hJ.ser
  have hcl := hJ.cl
  have hpa := hJ.hpa
  have hpb := hJ.hpb
  have hka := hJ.ka.ser
  have hgi := hJ.gi
  have hokb := hJ.ok.burn hnf
  have hlen := hokb.len
  have hclb : (D.burn n).cl = D.cl := rfl
  have hal : (bsa ++ packX l).length = bsa.length + (packX l).length := List.length_append
  have hs1 : h1.ser = ha.ser + 1 := by rw [hh]
  have hc1 : h1.cnt = (bsa ++ packX l).length := by rw [hh]
  have hn1 : h1.nt = ha.nt := by rw [hh]
  have hK : HdK h1 := ⟨⟨by omega, by omega⟩, ⟨by omega, by omega⟩, by rw [hn1]; exact hJ.ka.nt, by rw [hn1]; exact hJ.ka.hi⟩
  have hx : ∀ x ∈ bsa ++ packX l, 0 ≤ x ∧ x ≤ 255 := fun x hx => (List.mem_append.1 hx).elim (hJ.ra x) (packX_rng hr x)
  obtain ⟨o1, o2⟩ := app_outf (D := D.burn n) hJ.m (by omega) (hJ.la.burn n) (h' := h1) (ys := packX l) (by omega) hK hs1 hka.1 hc1 (by omega) fate hfc
  obtain ⟨g1, g2⟩ := appR_gen (fr := fra) (p := pa) (h' := h1) (bs := bsa) (ys := packX l) (hJ.rg.burn n) hK hx (by omega) (by omega)
  have hokr : (appR fra pa h1 bsa (packX l) (D.burn n)).2.OK nd := appR_OK hokb (by omega) (by omega)
  have hat := fun j hj => appR_offc (fr := fra) (p := pa) (h' := h1) (bs := bsa) (ys := packX l) (D := D.burn n) (by omega) (by omega) hJ.m fate j hj
  have hlb : LSf frb ((half - 2) * 64) c ((appR fra pa h1 bsa (packX l) (D.burn n)).2.crash fate) hb bsb pb := (hJ.lb.burn n).cong (fun j hj => hat _ (by omega)) (by omega)
  have hclr : (appR fra pa h1 bsa (packX l) (D.burn n)).2.cl ≤ 500 * (i + 1) := by omega
  have new : LSf fra ((half - 2) * 64) c ((appR fra pa h1 bsa (packX l) (D.burn n)).2.crash fate) h1 (bsa ++ packX l) (1 - pa) → SC c nd half (i + 1) ((appR fra pa h1 bsa (packX l) (D.burn n)).2.crash fate) at_ fra frb h1 hb (bsa ++ packX l) bsb (1 - pa) pb (want ++ l) gen := fun k =>
    ⟨hokr.crash fate, crash_free _ _, g1.crash fate, rfl, hfr, k, hlb, hK, hJ.kb, ⟨by omega, by omega⟩, by rw [← hJ.ga]; unfold genH; rw [hn1], hJ.gb, by omega, hx, hJ.rb, by rw [packX_app, ← hJ.pk], fun x hx => (List.mem_append.1 hx).elim (hJ.w4 x) (h4 x), hclr, by omega, hpb⟩
  have old : LSf fra ((half - 2) * 64) c ((appR fra pa h1 bsa (packX l) (D.burn n)).2.crash fate) ha bsa pa → SC c nd half (i + 1) ((appR fra pa h1 bsa (packX l) (D.burn n)).2.crash fate) at_ fra frb ha hb bsa bsb pa pb want gen := fun k =>
    ⟨hokr.crash fate, crash_free _ _, g1.crash fate, rfl, hfr, k, hlb, hJ.ka, hJ.kb, ⟨by omega, by omega⟩, hJ.ga, hJ.gb, by omega, hJ.ra, hJ.rb, hJ.pk, hJ.w4, hclr, hpa, hpb⟩
  exact ⟨fun h9 => new (o1 h9), fun h9 => (o2 h9).imp old new, hokr, hclr⟩
theorem SC.clear {c : Int} {nd half i : Nat} {D : Dk} {at_ : Bool} {fra frb : Nat} {ha hb : Hd} {bsa bsb : List Int} {pa pb : Nat} {want : List (List Int)} {gen : Nat} (hJ : SC c nd half i D at_ fra frb ha hb bsa bsb pa pb want gen) (h3 : 3 ≤ half) (hn : 2 * half ≤ nd) (hn9 : nd ≤ 500) (hi : i ≤ 100) (n : Int) (hnf : n ≤ 9223372036854775807) (fate : List Int) (hfc : c = fateN fate 0) (h1 : Hd) (hh : h1 = ⟨hb.ser + 1, ((0 : Nat) : Int), hb.nt⟩) :
    HdK h1 ∧ ((wrAll [(frb + pb, secH h1)] (D.burn n)).1 = true → (wrAll [(frb + pb, secH h1)] (D.burn n)).2.M = [] ∧ LSf frb ((half - 2) * 64) c (wrAll [(frb + pb, secH h1)] (D.burn n)).2 h1 [] (1 - pb) ∧ LSf fra ((half - 2) * 64) c (wrAll [(frb + pb, secH h1)] (D.burn n)).2 ha bsa pa) ∧ ((wrAll [(frb + pb, secH h1)] (D.burn n)).1 = false → ∃ hb' bsb' pb', SC c nd half (i + 1) ((wrAll [(frb + pb, secH h1)] (D.burn n)).2.crash fate) at_ fra frb ha hb' bsa bsb' pa pb' want gen) ∧ (wrAll [(frb + pb, secH h1)] (D.burn n)).2.OK nd ∧ RG (wrAll [(frb + pb, secH h1)] (D.burn n)).2 ∧ (wrAll [(frb + pb, secH h1)] (D.burn n)).2.cl ≤ 500 * i + 1 := by
  have hfr := hJ.fr
  have hser := hJ.ser
  have hcl := hJ.cl
  have hpa := hJ.hpa
  have hpb := hJ.hpb
  have hkb := hJ.kb.ser
  have hgi := hJ.gi
  have hokb := hJ.ok.burn hnf
  have hlen := hokb.len
  have hclb : (D.burn n).cl = D.cl := rfl
  have hs1 : h1.ser = hb.ser + 1 := by rw [hh]
  have hc1 : h1.cnt = ((0 : Nat) : Int) := by rw [hh]
  have hn1 : h1.nt = hb.nt := by rw [hh]
  have hK : HdK h1 := ⟨⟨by omega, by omega⟩, ⟨by omega, by omega⟩, by rw [hn1]; exact hJ.kb.nt, by rw [hn1]; exact hJ.kb.hi⟩
  have hlb := hJ.lb.burn n
  have hwl : ∀ e ∈ [(frb + pb, secH h1)], e.1 < (D.burn n).secs.length ∧ RB e.2 := fun e he => by simp only [List.mem_singleton] at he; subst he; exact ⟨by dsimp only; omega, secH_RB hK⟩
  have out := fun ft hft => head_outf (D := D.burn n) (bs' := []) hJ.m (by omega) hlb.hs (h' := h1) (by omega) hK hs1 hkb.1 hlb.cnt hlb.le hlb.bytes hc1 (by simp) rfl ft hft
  obtain ⟨g1, g2, _⟩ := wrAll_gen [(frb + pb, secH h1)] (D.burn n) hwl (hJ.rg.burn n)
  have hokr : (wrAll [(frb + pb, secH h1)] (D.burn n)).2.OK nd := wrAll_OK _ _ (fun e he => by have := (hwl e he).1; omega) hokb
  simp only [List.length_singleton] at g2
  have hat := fun j hj => wrAll_offc (l := [(frb + pb, secH h1)]) (D := D.burn n) (fun e he => (hwl e he).1) hJ.m fate j hj
  have hat0 := fun j hj => wrAll_off (l := [(frb + pb, secH h1)]) (D := D.burn n) (fun e he => (hwl e he).1) hJ.m j hj
  have hne : ∀ j, j < 2 + ((half - 2) * 64 + 63) / 64 → ∀ e ∈ [(frb + pb, secH h1)], e.1 ≠ fra + j := fun j hj e he => by simp only [List.mem_singleton] at he; subst he; dsimp only; omega
  refine ⟨hK, fun h9 => ?_, fun h9 => ?_, hokr, g1, by omega⟩
  · have hm := wrAll_t _ _ h9
    refine ⟨hm, ?_, (hJ.la.burn n).cong (fun j hj => hat0 _ (hne j hj)) (by omega)⟩
    exact ((out fate hfc).1 h9).cong (fun j _ => (crash_at_nil hm fate _).symm) (by omega)
  · have mk : ∀ (hh : Hd) (bb : List Int) (q : Nat), LSf frb ((half - 2) * 64) c ((wrAll [(frb + pb, secH h1)] (D.burn n)).2.crash fate) hh bb q → HdK hh → hh.nt = hb.nt → (∀ x ∈ bb, 0 ≤ x ∧ x ≤ 255) → hh.ser ≤ 2 * (i + 1 : Nat) → (q : Int) = (hh.ser + 1) % 2 → SC c nd half (i + 1) ((wrAll [(frb + pb, secH h1)] (D.burn n)).2.crash fate) at_ fra frb ha hh bsa bb pa q want gen := fun hh bb q k1 k2 k3 k4 k5 k6 =>
      have eg : genH hh = genH hb := by unfold genH; rw [k3]
      ⟨hokr.crash fate, crash_free _ _, g1.crash fate, rfl, hfr, (hJ.la.burn n).cong (fun j hj => hat _ (hne j hj)) (by omega), k1, hJ.ka, k2, ⟨by omega, by omega⟩, hJ.ga, by rw [eg]; exact hJ.gb, by omega, hJ.ra, k4, hJ.pk, hJ.w4, by show (wrAll [(frb + pb, secH h1)] (D.burn n)).2.cl ≤ _; omega, hpa, k6⟩
    rcases (out fate hfc).2 h9 with k | k
    · exact ⟨_, _, _, mk _ _ _ k hJ.kb rfl hJ.rb (by omega) hpb⟩
    · exact ⟨_, _, _, mk _ _ _ k hK hn1 (by simp) (by omega) (by omega)⟩
theorem SC.compact {c : Int} {nd half i : Nat} {D : Dk} {at_ : Bool} {fra frb : Nat} {ha hb : Hd} {bsa bsb : List Int} {pa pb : Nat} {want : List (List Int)} {gen : Nat} (hJ : SC c nd half i D at_ fra frb ha hb bsa bsb pa pb want gen) (h3 : 3 ≤ half) (hn : 2 * half ≤ nd) (hn9 : nd ≤ 500) (hi : i ≤ 100) (n : Int) (hnf : n ≤ 9223372036854775807) (fate : List Int) (hfc : c = fateN fate 0) (l : List (List Int)) (h4 : ∀ x ∈ l, x.length ≤ 4096) (hr : ∀ y ∈ l, ∀ x ∈ y, 0 ≤ x ∧ x ≤ 255) (hroom : (packX l).length ≤ (half - 2) * 64) (h1 : Hd) (hh : h1 = ⟨hb.ser + 1, ((0 : Nat) : Int), hb.nt⟩) (hrt : (wrAll [(frb + pb, secH h1)] (D.burn n)).1 = true) (h2 : Hd) (hh2 : h2 = ⟨h1.ser + 1, (([] : List Int) ++ packX l).length, ntA ((gen : Int) + 1)⟩) (r : Bool × Dk) (hre : r = appR frb (1 - pb) h2 [] (packX l) (wrAll [(frb + pb, secH h1)] (D.burn n)).2) :
    (r.1 = true → SC c nd half (i + 1) (r.2.crash fate) (!at_) frb fra h2 ha ([] ++ packX l) bsa pb pa l (gen + 1)) ∧ (r.1 = false → (∃ hb' bsb' pb', SC c nd half (i + 1) (r.2.crash fate) at_ fra frb ha hb' bsa bsb' pa pb' want gen) ∨ SC c nd half (i + 1) (r.2.crash fate) (!at_) frb fra h2 ha ([] ++ packX l) bsa pb pa l (gen + 1)) ∧ r.2.OK nd ∧ r.2.cl ≤ 500 * (i + 1) := by
  obtain ⟨hK1, c1, _, c3, c4, c5⟩ := hJ.clear h3 hn hn9 hi n hnf fate hfc h1 hh
  obtain ⟨c6, c7, c8⟩ := c1 hrt
  obtain ⟨D1, hD1⟩ : ∃ D1, D1 = (wrAll [(frb + pb, secH h1)] (D.burn n)).2 := ⟨_, rfl⟩
  rw [← hD1] at c3 c4 c5 c6 c7 c8 hre
  have hfr := hJ.fr
  have hser := hJ.ser
  have hcl := hJ.cl
  have hpa := hJ.hpa
  have hpb := hJ.hpb
  have hgi := hJ.gi
  have hlen := c3.len
  have hkb := hJ.kb.ser
  have hk1 := hK1.ser
  have hal : (([] : List Int) ++ packX l).length = (packX l).length := by rw [List.nil_append]
  have hs1 : h1.ser = hb.ser + 1 := by rw [hh]
  have hn1 : h1.nt = hb.nt := by rw [hh]
  have hs2 : h2.ser = h1.ser + 1 := by rw [hh2]
  have hc2 : h2.cnt = (([] : List Int) ++ packX l).length := by rw [hh2]
  have hn2 : h2.nt = ntA ((gen : Int) + 1) := by rw [hh2]
  have hK : HdK h2 := ⟨⟨by omega, by omega⟩, ⟨by omega, by omega⟩, by rw [hn2]; exact ntA_RB _, by rw [hn2]; exact ntA_hi _⟩
  have hx : ∀ x ∈ ([] : List Int) ++ packX l, 0 ≤ x ∧ x ≤ 255 := by rw [List.nil_append]; exact packX_rng hr
  have hg2 : genH h2 = ((gen + 1 : Nat) : Int) := by unfold genH; rw [hn2, gen_of ⟨by omega, by omega⟩]; omega
  have hfr2 : (!at_) = false ∧ frb = 0 ∧ fra = half ∨ (!at_) = true ∧ frb = half ∧ fra = 0 := by
    rcases hfr with ⟨e1, e2, e3⟩ | ⟨e1, e2, e3⟩
    · exact .inr ⟨by rw [e1]; rfl, e3, e2⟩
    · exact .inl ⟨by rw [e1]; rfl, e3, e2⟩
  obtain ⟨o1, o2⟩ := app_outf (D := D1) c6 (by omega) c7 (h' := h2) (ys := packX l) (by omega) hK hs2 hk1.1 hc2 (by omega) fate hfc
  rw [show 1 - (1 - pb) = pb by omega] at o1 o2
  obtain ⟨g1, g2⟩ := appR_gen (fr := frb) (p := 1 - pb) (h' := h2) (bs := []) (ys := packX l) c4 hK hx (by omega) (by omega)
  have hokr : (appR frb (1 - pb) h2 [] (packX l) D1).2.OK nd := appR_OK c3 (by omega) (by omega)
  have hat := fun j hj => appR_offc (fr := frb) (p := 1 - pb) (h' := h2) (bs := []) (ys := packX l) (D := D1) (by omega) (by omega) c6 fate j hj
  rw [← hre] at o1 o2 g1 g2 hokr hat
  have hla : LSf fra ((half - 2) * 64) c (r.2.crash fate) ha bsa pa := c8.cong (fun j hj => hat _ (by omega)) (by omega)
  have hclr : r.2.cl ≤ 500 * (i + 1) := by omega
  have new : LSf frb ((half - 2) * 64) c (r.2.crash fate) h2 ([] ++ packX l) pb → SC c nd half (i + 1) (r.2.crash fate) (!at_) frb fra h2 ha ([] ++ packX l) bsa pb pa l (gen + 1) := fun k =>
    ⟨hokr.crash fate, crash_free _ _, g1.crash fate, rfl, hfr2, k, hla, hK, hJ.ka, ⟨by omega, by omega⟩, hg2, ⟨by rw [hJ.ga]; omega, fun _ => by rw [hJ.ga]; omega⟩, by omega, hx, hJ.ra, by rw [List.nil_append], h4, hclr, by omega, hpa⟩
  have eg : genH h1 = genH hb := by unfold genH; rw [hn1]
  have old : LSf frb ((half - 2) * 64) c (r.2.crash fate) h1 [] (1 - pb) → SC c nd half (i + 1) (r.2.crash fate) at_ fra frb ha h1 bsa [] pa (1 - pb) want gen := fun k =>
    ⟨hokr.crash fate, crash_free _ _, g1.crash fate, rfl, hfr, hla, k, hJ.ka, hK1, ⟨by omega, by omega⟩, hJ.ga, by rw [eg]; exact hJ.gb, by omega, hJ.ra, by simp, hJ.pk, hJ.w4, hclr, hpa, by omega⟩
  exact ⟨fun h9 => new (o1 h9), fun h9 => (o2 h9).imp (fun k => ⟨_, _, _, old k⟩) new, hokr, hclr⟩
end Go.Proofs.YtgmghkakiocmjaaGreatDoor
