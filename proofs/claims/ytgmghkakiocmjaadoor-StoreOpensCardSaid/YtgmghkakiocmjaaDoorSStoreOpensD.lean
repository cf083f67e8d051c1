/- Proved: for every input, the law jalousielaw09.StoreOpens returns true and does not panic, and each argument reads behind the call as it read before. Conditions: the card's own, that is, the package-level values that it names are as the program lays them. -/
import Derived.Test.YtgmghkakiocmjaaDoorSStoreOpensC
namespace Go.Proofs.YtgmghkakiocmjaaDoor
open Go Go.RowKit
set_option linter.unusedVariables false
set_option linter.unusedSimpArgs false
def recF : Nat → List Int → List (List Int)
  | 0, _ => []
  | k + 1, ys => if (numX ys).2 ≠ 0 ∧ (numX ys).1 ≤ 4096 ∧ (numX ys).2 + (numX ys).1 ≤ ys.length then (ys.drop (numX ys).2).take (numX ys).1 :: recF k (ys.drop ((numX ys).2 + (numX ys).1)) else []
def recs (ys : List Int) : List (List Int) := recF ys.length ys
theorem recF_big : ∀ (k : Nat) (ys : List Int), ys.length ≤ k → recF k ys = recF ys.length ys
  | 0, ys, h => by
    obtain rfl : ys = [] := List.eq_nil_of_length_eq_zero (by omega)
    rfl
  | k + 1, ys, h => by
    by_cases hc : (numX ys).2 ≠ 0 ∧ (numX ys).1 ≤ 4096 ∧ (numX ys).2 + (numX ys).1 ≤ ys.length
    · obtain ⟨m, hm⟩ : ∃ m, ys.length = m + 1 := ⟨ys.length - 1, by omega⟩
      have e1 : recF (k + 1) ys = (ys.drop (numX ys).2).take (numX ys).1 :: recF k (ys.drop ((numX ys).2 + (numX ys).1)) := by rw [recF, if_pos hc]
      have e2 : recF (m + 1) ys = (ys.drop (numX ys).2).take (numX ys).1 :: recF m (ys.drop ((numX ys).2 + (numX ys).1)) := by rw [recF, if_pos hc]
      rw [e1, hm, e2, recF_big k _ (by simp; omega), recF_big m _ (by simp; omega)]
    · have e1 : recF (k + 1) ys = [] := by rw [recF, if_neg hc]
      rw [e1]
      cases hl : ys.length with
      | zero => rfl
      | succ m => rw [recF, if_neg hc]
  termination_by k => k
theorem recs_ok {ys : List Int} {x n : Nat} (hx : numX ys = (x, n)) (hn : n ≠ 0) (h4 : x ≤ 4096) (hl : n + x ≤ ys.length) : recs ys = (ys.drop n).take x :: recs (ys.drop (n + x)) := by
  obtain ⟨m, hm⟩ : ∃ m, ys.length = m + 1 := ⟨ys.length - 1, by omega⟩
  unfold recs
  rw [hm, recF, hx]
  dsimp only
  rw [if_pos ⟨hn, h4, by omega⟩, recF_big m _ (by simp; omega)]
theorem recs_no {ys : List Int} (h : (numX ys).2 = 0 ∨ 4096 < (numX ys).1 ∨ ys.length < (numX ys).2 + (numX ys).1) : recs ys = [] := by
  unfold recs
  cases hl : ys.length with
  | zero => rfl
  | succ m => rw [recF, if_neg (by omega)]
structure PW (p : CPrt) : Prop where
  l : p.xs.length = p.len
  c : p.len ≤ p.cap
  r : ∀ x ∈ p.xs, 0 ≤ x ∧ x ≤ 255
theorem pw_ok {p : CPrt} {L : List Chunk} {w : World} (hL : Has L w) (hm : Chunk.sl p.a p.cap 5 1 (p.xs.map (Value.int .u8)) ∈ L) (h : PW p) : p.Ok w := by
  have hb := hL.ok _ hm
  simp only [Chunk.ok] at hb
  refine ⟨⟨?_⟩, h.l, h.c, h.r⟩
  rcases hb with ⟨_, _, h9⟩ | ⟨g, cs, e, k1, k2, k3⟩
  · exact .inl (by simpa using h9)
  · refine .inr ⟨g, 0, e, ?_⟩
    rw [e] at hm
    exact hL.old_sl (k := (p.xs.map (Value.int .u8)).length) hm (by rw [List.drop_zero, List.take_of_length_le (Nat.le_refl _)])
theorem secC_foot2 {k : Nat} {X : List Nat} {ps : List CPrt} (h : ∀ p ∈ ps, ∀ g, p.a = some ⟨g, 0, none⟩ → k ≤ g) (h2 : ∀ p ∈ ps, p.a = none ∨ ∃ g, p.a = some ⟨g, 0, none⟩) : ∀ g ∈ feet (secC ps), g ∈ X ∨ k ≤ g := by
  intro g hg
  obtain ⟨c, hc, hg⟩ := List.mem_flatMap.1 hg
  simp only [secC, List.mem_map] at hc
  obtain ⟨p, hp, rfl⟩ := hc
  rcases h2 p hp with e | ⟨g9, e⟩
  · rw [e] at hg; simp [Chunk.foot] at hg
  · rw [e] at hg; simp [Chunk.foot] at hg; rw [hg]; exact .inr (h p hp g9 e)
set_option maxRecDepth 100000 in
set_option maxHeartbeats 4000000 in
theorem records_c (gs : Nat) (at_ : Bool) (ga : Nat) (ba : Option Addr) (ca : Nat) (ha : Hd) (bsa : List Int) (fra gb : Nat) (bb : Option Addr) (cb : Nat) (hb : Hd) (bsb : List Int) (frb room gd : Nat) (hroom : room ≤ 60000) (hla : bsa.length ≤ room) (hra : ∀ x ∈ bsa, 0 ≤ x ∧ x ≤ 255) (hbka : BK ba ca bsa.length) (w : World) (hS : Has (StL gs at_ ga ba ca ha bsa fra gb bb cb hb bsb frb room gd) w) :
    CA Tryd.prog 11 [.pointer (some ⟨gs, 0, none⟩)] w (Ret (fun z : Option Addr × Nat × List CPrt => .slice z.1 z.2.2.length z.2.1) [] (fun z => .sl z.1 z.2.1 30 1 ((z.2.2).map CPrt.v) :: secC z.2.2) (fun z => BK z.1 z.2.1 z.2.2.length ∧ z.2.2.map (·.xs) = recs bsa ∧ ∀ p ∈ z.2.2, PW p) w) := by
  refine enter (L := (StL gs at_ ga ba ca ha bsa fra gb bb cb hb bsb frb room gd)) (X := []) Tryd.func11 rfl Tryd.ntmps11 rfl rfl hS ?_
  repeat (first | refine c_seq ?_ | (refine c_region (id := 0) ?_; refine sq qa ?_; refine l_nil ?_) | (refine c_region (id := 1) ?_; refine sq qa ?_; refine l_nil ?_) | (refine c_region (id := 2) ?_; refine sq qm ?_; refine se ?_; refine ecp rfl rfl (fun w hC hm hL => by exact slog_c at_ gs ga gb w (hL.old (k := 3) (by (repeat (first | exact List.Mem.head _ | apply List.Mem.tail))) (by cases at_ <;> rfl))) ?_; intro m' hm'; refine se ?_; refine e_callL (enc := (Value.int .u8)) (e := 5) rfl rfl (by kernel_rfl) rfl (fun w hC hm hL => by exact lbytes_c ga gd fra room ha ba ca false bsa (by omega) w (SlE.own hL (by (repeat (first | exact List.Mem.head _ | apply List.Mem.tail))) (os_bk hbka)) (hL.sub (by (repeat (first | exact List.nil_sublist _ | exact List.Sublist.slnil | apply List.Sublist.cons_cons | exact List.Sublist.refl _ | apply List.Sublist.cons))))) ?_; intro b6 cap6 zs6 m6 hz6 ho6 hm6; refine se ?_; refine ecl rfl rfl (fun w hC hm hL => by exact read_c b6 zs6.length cap6 zs6 rfl (by rw [hz6]; omega) w (SlE.own hL (by (repeat (first | exact List.Mem.head _ | apply List.Mem.tail))) ho6)) ?_; intro z1 m1 hz1 hn1 hm1; obtain ⟨gi, b, cap⟩ := z1; dsimp only at hz1 ⊢; refine sq qa ?_; refine l_nil ?_) | refine n_then ?_ | refine c_block ?_ | refine c_skip ?_ | refine n_block ?_ | refine c_exit ?_ | refine n_then_exit ?_ | refine n_block_eq ?_ | refine n_block_ne rfl ?_ | refine c_ret ?_ | refine n_then_ret ?_ | refine n_block_ret ?_ | refine c_cond_t rfl ?_ | refine c_cond_f rfl ?_ | refine r_succ ?_ )
  rw [hz6] at hz1 ⊢
  have hob : OS [] 0 b cap bsa.length := hz1
  have hbn9 : ∀ g, b = some ⟨g, 0, none⟩ → w.heap.size ≤ g := fun g e => by have := hn1 g (by simp [feet, Chunk.foot, e]); omega
  have hob9 : BK b cap bsa.length := hob.ret
  have hgi : w.heap.size ≤ gi := by have := hn1 gi (by simp [feet, Chunk.foot]); omega
  refine add_nil 30 1 ?_
  refine c_loop (γ := List CPrt × (Option Addr × Nat) × (Option Addr × Nat × Nat) × Nat) (fun z => [(4, .pointer (some ⟨gi, 0, none⟩)), (3, .slice z.2.1.1 z.1.length z.2.1.2)]) (fun z => z.2.2.2) (fun z => .sl z.2.1.1 z.2.1.2 30 1 ((z.1).map CPrt.v) :: (.sl b cap 5 1 (bsa.map (Value.int .u8))) :: (.blk gi (.cells #[.slice z.2.2.1.1 z.2.2.1.2.1 z.2.2.1.2.2, .bool false] 98 (0, 0))) :: secC z.1) (fun z => OS [] w.heap.size z.2.1.1 z.2.1.2 z.1.length ∧ LV b bsa z.2.2.1.1 z.2.2.1.2.1 z.2.2.1.2.2 ∧ z.1.map (·.xs) ++ recs (bsa.drop (bsa.length - z.2.2.1.2.1)) = recs bsa ∧ (∀ p ∈ z.1, PW p) ∧ (∀ p ∈ z.1, ∀ g, p.a = some ⟨g, 0, none⟩ → w.heap.size ≤ g) ∧ (∀ p ∈ z.1, p.a = none ∨ ∃ g, p.a = some ⟨g, 0, none⟩) ∧ z.1.length + z.2.2.1.2.1 ≤ bsa.length ∧ w.heap.size ≤ z.2.2.2) (fun z => z.2.2.1.2.1) ⟨[], (none, 0), (b, bsa.length, cap), m1⟩ ⟨OS.nil _ _, LV.all hob, by simp, by simp, by simp, by simp, by simp, by dsimp only; omega⟩ ⟨rfl, rfl, trivial⟩ rfl (by exact (by (repeat (first | exact List.nil_sublist _ | exact List.Sublist.slnil | apply List.Sublist.cons_cons | exact List.Sublist.refl _ | apply List.Sublist.cons)))) ?_
  rintro ⟨ps, ⟨bo, co⟩, ⟨lb, ll, lc⟩, mm⟩ ⟨ho, hv, hrec, hpw, hpn, hpa, hpl, hmm⟩
  dsimp only at ho hv hrec hpw hpn hpa hpl hmm ⊢
  have hvl := hv.le
  by_cases h0 : ll = 0
  · have e9 : bsa.drop (bsa.length - ll) = [] := by rw [List.drop_eq_nil_iff]; omega
    rw [e9] at hrec
    repeat (first | refine c_seq ?_ | (refine c_region (id := 3) ?_; refine sq qm ?_; refine se ?_; refine ecp rfl rfl (fun w hC hm hL => by exact left_c gi lb ll lc false w (hL.old (k := 2) (by (repeat (first | exact List.Mem.head _ | apply List.Mem.tail))) (by rfl))) ?_; intro m' hm'; refine sq (by first | exact dgtrt | exact dgtrf) ?_; refine l_nil ?_) | (refine c_region (id := 7) ?_; refine sq qm ?_; refine sq qa ?_; refine l_nil ?_) | refine n_then ?_ | refine c_block ?_ | refine c_skip ?_ | refine n_block ?_ | refine c_exit ?_ | refine n_then_exit ?_ | refine n_block_eq ?_ | refine n_block_ne rfl ?_ | refine c_ret ?_ | refine n_then_ret ?_ | refine n_block_ret ?_ | refine c_cond_t rfl ?_ | refine c_cond_f rfl ?_ | refine r_succ ?_ )
    (first | apply r_ret (bo, co, ps) | apply r_end (bo, co, ps)); exact rfl; exact rfl; exact (.tmp rfl .nil); exact rfl; exact (by exact (by (repeat (first | exact List.nil_sublist _ | exact List.Sublist.slnil | apply List.Sublist.cons_cons | exact List.Sublist.refl _ | apply List.Sublist.cons)))); exact (new_sl ho.newc (secC_foot2 hpn hpa)); exact ⟨ho.ret, by rw [← hrec]; simp [recs, recF], hpw⟩
  obtain ⟨ys, hys⟩ : ∃ ys, ys = bsa.drop (bsa.length - ll) := ⟨_, rfl⟩
  have hyl : ys.length = ll := by rw [hys]; simp; omega
  obtain ⟨⟨x, n⟩, hxn⟩ : ∃ xn, numX ys = xn := ⟨_, rfl⟩
  rw [← hys] at hrec
  by_cases hok : n ≠ 0 ∧ x ≤ 4096 ∧ n + x ≤ ll
  · obtain ⟨hn0, hx4, hnx⟩ := hok
    have hr2 := recs_ok hxn hn0 hx4 (by omega)
    have hdr : bsa.drop (bsa.length - (ll - n - x)) = ys.drop (n + x) := by rw [hys, List.drop_drop]; congr 1; omega
    have hdr2 : bsa.drop (bsa.length - (ll - n)) = ys.drop n := by rw [hys, List.drop_drop]; congr 1; omega
    have hlen4 : ((ys.drop n).take x).length = x := by simp; omega
    repeat (first | refine c_seq ?_ | (refine c_region (id := 3) ?_; refine sq qm ?_; refine se ?_; refine ecp rfl rfl (fun w hC hm hL => by exact left_c gi lb ll lc false w (hL.old (k := 2) (by (repeat (first | exact List.Mem.head _ | apply List.Mem.tail))) (by rfl))) ?_; intro m' hm'; refine sq (by first | exact dgtrt | exact dgtrf) ?_; refine l_nil ?_) | (refine c_region (id := 4) ?_; refine sq qm ?_; refine se ?_; refine e_callX [(.sl b cap 5 1 (bsa.map (Value.int .u8))), (.blk gi (.cells #[.slice lb ll lc, .bool false] 98 (0, 0)))] _ rfl rfl (by kernel_rfl) rfl (by (repeat (first | exact Sp.nil | (apply Sp.cons; focus (repeat (first | exact Rm.here | apply Rm.there)))))) (fun w hC hm hA hL hap => by exact itext_c gi b cap bsa hra (by omega) lb ll lc false hv w hob hA 4096 ⟨by omega, by omega⟩ x n (by rw [← hys]; exact hxn) hn0 (by omega) hx4 (by omega)) (by intro g hg; simp only [feet, List.flatMap_cons, List.mem_append] at hg; rcases hg with h9 | h9; exact bk_new hob9 hbn9 g h9; (simp [Chunk.foot] at h9; exact .inr (by omega))) (fun _ => rfl) ?_; intro z4 m4 hz4 hn4 hm4; obtain ⟨b4, cap4, lb4⟩ := z4; dsimp only at hz4 hn4 ⊢; refine sq qa ?_; refine l_nil ?_) | refine n_then ?_ | refine c_block ?_ | refine c_skip ?_ | refine n_block ?_ | refine c_exit ?_ | refine n_then_exit ?_ | refine n_block_eq ?_ | refine n_block_ne rfl ?_ | refine c_ret ?_ | refine n_then_ret ?_ | refine n_block_ret ?_ | refine c_cond_t rfl ?_ | refine c_cond_f rfl ?_ | refine r_succ ?_ )
    rw [hdr2]
    repeat (first | refine c_seq ?_ | (refine c_region (id := 5) ?_; refine sq qm ?_; refine se ?_; refine ecp rfl rfl (fun w hC hm hL => by exact bad_c gi _ false w (hL.old (k := 2) (by (repeat (first | exact List.Mem.head _ | apply List.Mem.tail))) (by rfl))) ?_; intro m' hm'; refine l_nil ?_) | (refine c_region (id := 6) ?_; refine sq qm ?_; refine sq qm ?_; refine se ?_; refine ebs ?_; refine se ?_; refine e_appM CPrt.v ps (⟨b4, x, cap4, (ys.drop n).take x⟩ : CPrt) rfl rfl rfl (by (repeat (first | exact Rm.here | apply Rm.there))) (by (repeat (first | exact List.Mem.head _ | apply List.Mem.tail))) rfl ho (by rfl) (by omega) (by omega) ?_; intro b2 cap2 m2 ho2 hm2; refine sq qa ?_; refine l_nil ?_) | refine n_then ?_ | refine c_block ?_ | refine c_skip ?_ | refine n_block ?_ | refine c_exit ?_ | refine n_then_exit ?_ | refine n_block_eq ?_ | refine n_block_ne rfl ?_ | refine c_ret ?_ | refine n_then_ret ?_ | refine n_block_ret ?_ | refine c_cond_t rfl ?_ | refine c_cond_f rfl ?_ | refine r_succ ?_ )
    refine prm (L' := .sl b2 cap2 30 1 (((ps ++ [(⟨b4, x, cap4, (ys.drop n).take x⟩ : CPrt)])).map CPrt.v) :: _ :: (.sl b cap 5 1 (bsa.map (Value.int .u8))) :: (.blk gi (.cells #[.slice lb4 (ll - n - x) (lc - n - x), .bool false] 98 (0, 0))) :: (secC ps ++ [.sl b4 cap4 5 1 (((ys.drop n).take x).map (Value.int .u8))])) (List.Perm.append_left [_, _] (List.perm_append_comm (l₁ := [_]) (l₂ := [_, _] ++ secC ps))) ?_
    refine c_round ⟨ps ++ [(⟨b4, x, cap4, (ys.drop n).take x⟩ : CPrt)], (b2, cap2), (lb4, ll - n - x, lc - n - x), m2⟩ ⟨by simpa using ho2, hz4.2, by rw [hdr]; simp only [List.map_append, List.map_cons, List.map_nil, List.append_assoc, List.cons_append, List.nil_append]; rw [← hr2]; exact hrec, fun q hq => ?_, fun q hq g e => ?_, fun q hq => ?_, by simp; omega, by dsimp only; omega⟩ (by dsimp only; omega) ⟨rfl, by simp; try rfl, trivial⟩ (by rfl) (by dsimp only; rw [secC_succ]; exact (by (repeat (first | exact List.nil_sublist _ | exact List.Sublist.slnil | apply List.Sublist.cons_cons | exact List.Sublist.refl _ | apply List.Sublist.cons))))
    · rcases List.mem_append.1 hq with h1 | h1
      · exact hpw q h1
      · simp only [List.mem_singleton] at h1
        subst h1
        exact ⟨hlen4, hz4.1.le, fun v hv9 => hra v (by have h7 := List.mem_of_mem_drop (List.mem_of_mem_take hv9); rw [hys] at h7; exact List.mem_of_mem_drop h7)⟩
    · rcases List.mem_append.1 hq with h1 | h1
      · exact hpn q h1 g e
      · simp only [List.mem_singleton] at h1
        subst h1
        have e : b4 = some ⟨g, 0, none⟩ := e
        have h7 := hn4 g (by simp [feet, Chunk.foot, e])
        simp at h7
        exact h7
    · rcases List.mem_append.1 hq with h1 | h1
      · exact hpa q h1
      · simp only [List.mem_singleton] at h1
        subst h1
        exact hz4.1.ob.imp (fun h => h.1) id
  · have hno : false = true ∨ (numX (bsa.drop (bsa.length - ll))).2 = 0 ∨ (4096 : Int) < 0 ∨ (4096 : Int) < ((numX (bsa.drop (bsa.length - ll))).1 : Int) ∨ 4096 < (numX (bsa.drop (bsa.length - ll))).1 ∨ ll < (numX (bsa.drop (bsa.length - ll))).2 + (numX (bsa.drop (bsa.length - ll))).1 := by
      rw [← hys, hxn]
      dsimp only
      omega
    have hr2 := recs_no (ys := ys) (by rw [hxn]; dsimp only; omega)
    rw [hr2] at hrec
    repeat (first | refine c_seq ?_ | (refine c_region (id := 3) ?_; refine sq qm ?_; refine se ?_; refine ecp rfl rfl (fun w hC hm hL => by exact left_c gi lb ll lc false w (hL.old (k := 2) (by (repeat (first | exact List.Mem.head _ | apply List.Mem.tail))) (by rfl))) ?_; intro m' hm'; refine sq (by first | exact dgtrt | exact dgtrf) ?_; refine l_nil ?_) | (refine c_region (id := 4) ?_; refine sq qm ?_; refine se ?_; refine e_callX [(.sl b cap 5 1 (bsa.map (Value.int .u8))), (.blk gi (.cells #[.slice lb ll lc, .bool false] 98 (0, 0)))] _ rfl rfl (by kernel_rfl) rfl (by (repeat (first | exact Sp.nil | (apply Sp.cons; focus (repeat (first | exact Rm.here | apply Rm.there)))))) (fun w hC hm hA hL hap => by exact itextno_c gi b cap bsa hra (by omega) lb ll lc false hv w hob hA 4096 ⟨by omega, by omega⟩ hno) (by intro g hg; simp only [feet, List.flatMap_cons, List.mem_append] at hg; rcases hg with h9 | h9; exact bk_new hob9 hbn9 g h9; (simp [Chunk.foot] at h9; exact .inr (by omega))) (fun _ => rfl) ?_; intro _ m4 _ hn4 hm4; refine sq qa ?_; refine l_nil ?_) | (refine c_region (id := 5) ?_; refine sq qm ?_; refine se ?_; refine ecp rfl rfl (fun w hC hm hL => by exact bad_c gi _ true w (hL.old (k := 2) (by (repeat (first | exact List.Mem.head _ | apply List.Mem.tail))) (by rfl))) ?_; intro m' hm'; refine l_nil ?_) | (refine c_region (id := 7) ?_; refine sq qm ?_; refine sq qa ?_; refine l_nil ?_) | refine n_then ?_ | refine c_block ?_ | refine c_skip ?_ | refine n_block ?_ | refine c_exit ?_ | refine n_then_exit ?_ | refine n_block_eq ?_ | refine n_block_ne rfl ?_ | refine c_ret ?_ | refine n_then_ret ?_ | refine n_block_ret ?_ | refine c_cond_t rfl ?_ | refine c_cond_f rfl ?_ | refine r_succ ?_ )
    (first | apply r_ret (bo, co, ps) | apply r_end (bo, co, ps)); exact rfl; exact rfl; exact (.tmp rfl .nil); exact rfl; exact (by exact (by (repeat (first | exact List.nil_sublist _ | exact List.Sublist.slnil | apply List.Sublist.cons_cons | exact List.Sublist.refl _ | apply List.Sublist.cons)))); exact (new_sl ho.newc (secC_foot2 hpn hpa)); exact ⟨ho.ret, by rw [← hrec]; simp, hpw⟩
end Go.Proofs.YtgmghkakiocmjaaDoor
namespace Go.Proofs.YtgmghkakiocmjaaDoor
open Go Go.RowKit
set_option linter.unusedVariables false
set_option linter.unusedSimpArgs false
set_option maxRecDepth 100000 in
set_option maxHeartbeats 4000000 in
theorem sroom_c (gs : Nat) (at_ : Bool) (ga : Nat) (ba : Option Addr) (ca : Nat) (ha : Hd) (bsa : List Int) (fra gb : Nat) (bb : Option Addr) (cb : Nat) (hb : Hd) (bsb : List Int) (frb room gd : Nat) (hr : bsa.length ≤ room ∧ room ≤ 100000000) (w : World) (hS : Has (StL gs at_ ga ba ca ha bsa fra gb bb cb hb bsb frb room gd) w) : CA Tryd.prog 12 [.pointer (some ⟨gs, 0, none⟩)] w (RV (.int .i64 ((room : Int) - bsa.length)) w) := by
  refine enter (L := (StL gs at_ ga ba ca ha bsa fra gb bb cb hb bsb frb room gd)) (X := []) Tryd.func12 rfl Tryd.ntmps12 rfl rfl hS ?_
  repeat (first | refine c_seq ?_ | (refine c_region (id := 0) ?_; refine sq qa ?_; refine l_nil ?_) | (refine c_region (id := 1) ?_; refine sq qm ?_; refine se ?_; refine ecp rfl rfl (fun w hC hm hL => by exact slog_c at_ gs ga gb w (hL.old (k := 3) (by (repeat (first | exact List.Mem.head _ | apply List.Mem.tail))) (by cases at_ <;> rfl))) ?_; intro m' hm'; refine se ?_; refine ecp rfl rfl (fun w hC hm hL => by exact room_c ga gd fra room ha ba bsa.length ca false hr w (hL.sub (by (repeat (first | exact List.nil_sublist _ | exact List.Sublist.slnil | apply List.Sublist.cons_cons | exact List.Sublist.refl _ | apply List.Sublist.cons))))) ?_; intro m' hm'; refine sq qa ?_; refine l_nil ?_) | refine n_then ?_ | refine c_block ?_ | refine c_skip ?_ | refine n_block ?_ | refine c_exit ?_ | refine n_then_exit ?_ | refine n_block_eq ?_ | refine n_block_ne rfl ?_ | refine c_ret ?_ | refine n_then_ret ?_ | refine n_block_ret ?_ | refine c_cond_t rfl ?_ | refine c_cond_f rfl ?_ | refine r_succ ?_ )
  (first | apply r_ret () | apply r_end ()); exact rfl; exact rfl; exact (.tmp rfl .nil); exact rfl; exact (List.nil_sublist _); exact new_nil; exact trivial
set_option maxRecDepth 100000 in
set_option maxHeartbeats 4000000 in
theorem sgen_c (gs : Nat) (at_ : Bool) (ga : Nat) (ba : Option Addr) (ca : Nat) (ha : Hd) (bsa : List Int) (fra gb : Nat) (bb : Option Addr) (cb : Nat) (hb : Hd) (bsb : List Int) (frb room gd : Nat) (hK : RB ha.nt) (w : World) (hS : Has (StL gs at_ ga ba ca ha bsa fra gb bb cb hb bsb frb room gd) w) : CA Tryd.prog 16 [.pointer (some ⟨gs, 0, none⟩)] w (RV (.int .u64 (genH ha)) w) := by
  refine enter (L := (StL gs at_ ga ba ca ha bsa fra gb bb cb hb bsb frb room gd)) (X := []) Tryd.func16 rfl Tryd.ntmps16 rfl rfl hS ?_
  repeat (first | refine c_seq ?_ | (refine c_region (id := 0) ?_; refine sq qa ?_; refine l_nil ?_) | (refine c_region (id := 1) ?_; refine sq qm ?_; refine se ?_; refine ecp rfl rfl (fun w hC hm hL => by exact slog_c at_ gs ga gb w (hL.old (k := 3) (by (repeat (first | exact List.Mem.head _ | apply List.Mem.tail))) (by cases at_ <;> rfl))) ?_; intro m' hm'; refine se ?_; refine ecp rfl rfl (fun w hC hm hL => by exact gener_c ga gd fra room ha hK _ false w (hL.sub (by (repeat (first | exact List.nil_sublist _ | exact List.Sublist.slnil | apply List.Sublist.cons_cons | exact List.Sublist.refl _ | apply List.Sublist.cons))))) ?_; intro m' hm'; refine sq qa ?_; refine l_nil ?_) | refine n_then ?_ | refine c_block ?_ | refine c_skip ?_ | refine n_block ?_ | refine c_exit ?_ | refine n_then_exit ?_ | refine n_block_eq ?_ | refine n_block_ne rfl ?_ | refine c_ret ?_ | refine n_then_ret ?_ | refine n_block_ret ?_ | refine c_cond_t rfl ?_ | refine c_cond_f rfl ?_ | refine r_succ ?_ )
  (first | apply r_ret () | apply r_end ()); exact rfl; exact rfl; exact (.tmp rfl .nil); exact rfl; exact (List.nil_sublist _); exact new_nil; exact trivial
set_option maxRecDepth 100000 in
set_option maxHeartbeats 4000000 in
theorem sover_c (gs : Nat) (at_ : Bool) (ga : Nat) (ba : Option Addr) (ca : Nat) (ha : Hd) (bsa : List Int) (fra gb : Nat) (bb : Option Addr) (cb : Nat) (hb : Hd) (bsb : List Int) (frb room gd : Nat) (w : World) (hS : Has (StL gs at_ ga ba ca ha bsa fra gb bb cb hb bsb frb room gd) w) : CA Tryd.prog 43 [.pointer (some ⟨gs, 0, none⟩)] w (RV (.bool false) w) := by
  refine enter (L := (StL gs at_ ga ba ca ha bsa fra gb bb cb hb bsb frb room gd)) (X := []) Tryd.func43 rfl Tryd.ntmps43 rfl rfl hS ?_
  repeat (first | refine c_seq ?_ | (refine c_region (id := 0) ?_; refine sq qa ?_; refine l_nil ?_) | (refine c_region (id := 1) ?_; refine sq qm ?_; refine se ?_; refine ecp rfl rfl (fun w hC hm hL => by exact slog_c at_ gs ga gb w (hL.old (k := 3) (by (repeat (first | exact List.Mem.head _ | apply List.Mem.tail))) (by cases at_ <;> rfl))) ?_; intro m' hm'; refine se ?_; refine ecp rfl rfl (fun w hC hm hL => by first | exact lover_c ga gd fra room ha _ false w (hL.sub (by (repeat (first | exact List.nil_sublist _ | exact List.Sublist.slnil | apply List.Sublist.cons_cons | exact List.Sublist.refl _ | apply List.Sublist.cons)))) | exact lover_c gb gd frb room hb _ false w (hL.sub (by (repeat (first | exact List.nil_sublist _ | exact List.Sublist.slnil | apply List.Sublist.cons_cons | exact List.Sublist.refl _ | apply List.Sublist.cons))))) ?_; intro m' hm'; refine sq qm ?_; (first | refine sk ?_ | refine skv ?_ | (refine st_want rfl rfl ?_; refine sq qm ?_)); (first | refine sk ?_ | refine skv ?_ | (refine st_want rfl rfl ?_; refine se ?_; refine ecp rfl rfl (fun w hC hm hL => by exact soth_c at_ gs ga gb w (hL.old (k := 3) (by (repeat (first | exact List.Mem.head _ | apply List.Mem.tail))) (by cases at_ <;> rfl))) ?_; intro m' hm')); (first | refine sk ?_ | refine skv ?_ | (refine st_want rfl rfl ?_; refine se ?_; refine ecp rfl rfl (fun w hC hm hL => by first | exact lover_c ga gd fra room ha _ false w (hL.sub (by (repeat (first | exact List.nil_sublist _ | exact List.Sublist.slnil | apply List.Sublist.cons_cons | exact List.Sublist.refl _ | apply List.Sublist.cons)))) | exact lover_c gb gd frb room hb _ false w (hL.sub (by (repeat (first | exact List.nil_sublist _ | exact List.Sublist.slnil | apply List.Sublist.cons_cons | exact List.Sublist.refl _ | apply List.Sublist.cons))))) ?_; intro m' hm')); refine sq (by first | exact qpt | exact qpf) ?_; refine sq qa ?_; refine l_nil ?_) | refine n_then ?_ | refine c_block ?_ | refine c_skip ?_ | refine n_block ?_ | refine c_exit ?_ | refine n_then_exit ?_ | refine n_block_eq ?_ | refine n_block_ne rfl ?_ | refine c_ret ?_ | refine n_then_ret ?_ | refine n_block_ret ?_ | refine c_cond_t rfl ?_ | refine c_cond_f rfl ?_ | refine r_succ ?_ )
  (first | apply r_ret () | apply r_end ()); exact rfl; exact rfl; exact (.tmp rfl .nil); exact rfl; exact (List.nil_sublist _); exact new_nil; exact trivial
def packL (ps : List CPrt) : List Int := ps.flatMap fun p => leb p.xs.length ++ p.xs
theorem packL_succ {ps : List CPrt} {i : Nat} {p : CPrt} (h : ps[i]? = some p) : packL (ps.take (i + 1)) = packL (ps.take i) ++ (leb p.xs.length ++ p.xs) := by
  unfold packL
  rw [List.take_add_one, h]
  simp
theorem leb2 {n : Nat} (h : n ≤ 4096) : (leb n).length ≤ 2 ∧ 1 ≤ (leb n).length := by
  by_cases h1 : n < 128
  · rw [leb_small h1]; simp
  · rw [leb_big h1, leb_small (show n / 128 < 128 by omega)]; simp
theorem txS_ok {ys : List Int} (h : ys.length ≤ 4096) : txS [] false ys = (leb ys.length ++ ys, false) := by
  have h2 := leb2 h
  have e1 : pS [] false (leb ys.length) = (leb ys.length, false) := by
    unfold pS
    rw [if_neg (by simp; omega)]
    simp
  unfold txS
  rw [if_neg (by omega), e1]
  dsimp only
  unfold pS
  rw [if_neg (by simp; omega)]
theorem packL_rng {ps : List CPrt} (h : ∀ p ∈ ps, ∀ x ∈ p.xs, 0 ≤ x ∧ x ≤ 255) : ∀ x ∈ packL ps, 0 ≤ x ∧ x ≤ 255 := by
  intro x hx
  obtain ⟨p, hp, hx⟩ := List.mem_flatMap.1 hx
  exact (List.mem_append.1 hx).elim (leb_bd _ x) (h p hp x)
theorem packL_le (ps : List CPrt) (i : Nat) : (packL (ps.take i)).length ≤ (packL ps).length := by
  have h : packL ps = packL (ps.take i) ++ packL (ps.drop i) := by
    unfold packL
    rw [← List.flatMap_append, List.take_append_drop]
  rw [h]; simp
theorem bk_ob {b : Option Addr} {cap : Nat} {xs : List Int} (h : BK b cap xs.length) : OB b (xs.map (Value.int .u8)) := h.2.2.imp (fun ⟨h1, h2⟩ => ⟨h1, by rw [List.eq_nil_of_length_eq_zero h2]; rfl⟩) id
set_option maxRecDepth 100000 in
set_option maxHeartbeats 4000000 in
theorem packed_ok (gs : Nat) (at_ : Bool) (ga : Nat) (ba : Option Addr) (ca : Nat) (ha : Hd) (bsa : List Int) (fra gb : Nat) (bb : Option Addr) (cb : Nat) (hb : Hd) (bsb : List Int) (frb room gd : Nat) (ap : Option Addr) (cp0 : Nat) (ps : List CPrt) (rm : Nat) (hrm : rm ≤ 60000) (hps4 : ∀ p ∈ ps, p.len ≤ 4096) (hfit : (packL ps).length ≤ rm) (hpn : ps.length ≤ 1000000) (w : World) (hS : Has (StL gs at_ ga ba ca ha bsa fra gb bb cb hb bsb frb room gd) w) (hps : ∀ p ∈ ps, p.Ok w) (hO : SlE CPrt.v w ap ps) :
    CA Tryd.prog 23 [.pointer (some ⟨gs, 0, none⟩), .slice ap ps.length cp0, .int .i64 (rm : Int)] w (Ret (fun z : Option Addr × Nat => .tuple #[.slice z.1 (packL ps).length z.2, .nilIface]) [] (fun z => [.sl z.1 z.2 5 1 ((packL ps).map (Value.int .u8))]) (fun z => BK z.1 z.2 (packL ps).length) w) := by
  refine enter (L := (StL gs at_ ga ba ca ha bsa fra gb bb cb hb bsb frb room gd)) (X := []) Tryd.func23 rfl Tryd.ntmps23 rfl rfl hS ?_
  repeat (first | refine c_seq ?_ | (refine c_region (id := 0) ?_; refine sq qa ?_; refine sq qa ?_; refine l_nil ?_) | (refine c_region (id := 1) ?_; refine sq qm ?_; refine se ?_; refine ecp rfl rfl (fun w hC hm hL => by exact sover_c gs at_ ga ba ca ha bsa fra gb bb cb hb bsb frb room gd w (hL.sub (by (repeat (first | exact List.nil_sublist _ | exact List.Sublist.slnil | apply List.Sublist.cons_cons | exact List.Sublist.refl _ | apply List.Sublist.cons))))) ?_; intro m' hm'; refine l_nil ?_) | (refine c_region (id := 3) ?_; refine sq qa ?_; refine l_nil ?_) | (refine c_region (id := 4) ?_; refine sq qm ?_; refine sq qls ?_; refine sq qm ?_; refine l_nil ?_) | refine n_then ?_ | refine c_block ?_ | refine c_skip ?_ | refine n_block ?_ | refine c_exit ?_ | refine n_then_exit ?_ | refine n_block_eq ?_ | refine n_block_ne rfl ?_ | refine c_ret ?_ | refine n_then_ret ?_ | refine n_block_ret ?_ | refine c_cond_t rfl ?_ | refine c_cond_f rfl ?_ | refine r_succ ?_ )
  refine add_nil 5 1 ?_
  refine c_loop (γ := Nat × Option Addr × Nat × Nat) (fun z => [(22, .int .i64 z.1), (20, .slice ap ps.length cp0), (21, .int .i64 ps.length), (8, .slice z.2.1 (packL (ps.take z.1)).length z.2.2.1), (2, .int .i64 (rm : Int))]) (fun z => z.2.2.2) (fun z => [.sl z.2.1 z.2.2.1 5 1 ((packL (ps.take z.1)).map (Value.int .u8))]) (fun z => z.1 ≤ ps.length ∧ OS [] w.heap.size z.2.1 z.2.2.1 (packL (ps.take z.1)).length ∧ w.heap.size ≤ z.2.2.2) (fun z => ps.length - z.1) ⟨0, none, 0, m'⟩ ⟨by simp, OS.nil _ _, by dsimp only; omega⟩ ⟨rfl, rfl, rfl, rfl, rfl, trivial⟩ rfl (by exact (by (repeat (first | exact List.nil_sublist _ | exact List.Sublist.slnil | apply List.Sublist.cons_cons | exact List.Sublist.refl _ | apply List.Sublist.cons)))) ?_
  rintro ⟨i, b, cap, mm⟩ ⟨hi, ho, hmm⟩
  dsimp only at hi ho hmm ⊢
  have hle := packL_le ps i
  by_cases h8 : i < ps.length
  · obtain ⟨p, hp⟩ : ∃ p, ps[i]? = some p := ⟨_, List.getElem?_eq_getElem h8⟩
    have hpk := hps p (List.mem_of_getElem? hp)
    have hp4 := hps4 p (List.mem_of_getElem? hp)
    have hpl := hpk.l
    have hlb := leb2 (n := p.xs.length) (by omega)
    have hyl : (leb p.xs.length ++ p.xs).length = (leb p.xs.length).length + p.xs.length := List.length_append
    obtain ⟨g0, o0, rfl, hOl⟩ := hO.get h8
    have hn9 : nth (ps.map CPrt.v) i = some (.slice p.a p.len p.cap) := nth_map hp
    repeat (first | refine c_seq ?_ | (refine c_region (id := 5) ?_; refine sq (by first | exact dlsst | exact dlssf) ?_; refine l_nil ?_) | (refine c_region (id := 6) ?_; refine sq (by exact qis (o' := o0 + i) (ho := by omega)) ?_; refine sq (by exact ql (hr := Rd.oldn hOl hn9 (by simp))) ?_; refine sq qa ?_; refine l_nil ?_) | (refine c_region (id := 7) ?_; refine se ?_; refine ea ?_; refine l_nil ?_) | refine n_then ?_ | refine c_block ?_ | refine c_skip ?_ | refine n_block ?_ | refine c_exit ?_ | refine n_then_exit ?_ | refine n_block_eq ?_ | refine n_block_ne rfl ?_ | refine c_ret ?_ | refine n_then_ret ?_ | refine n_block_ret ?_ | refine c_cond_t rfl ?_ | refine c_cond_f rfl ?_ | refine r_succ ?_ )
    refine add_nil 5 1 ?_
    repeat (first | refine c_seq ?_ | (refine c_region (id := 8) ?_; refine sq qm ?_; refine se ?_; refine e_callX (OutL mm none 0 [] false) _ rfl rfl (by kernel_rfl) rfl (by (repeat (first | exact Sp.nil | (apply Sp.cons; focus (repeat (first | exact Rm.here | apply Rm.there)))))) (fun w hC hm hA hL hap => by have h9 := text_c mm none 0 [] false (by simp) (by simp) (OS.nil _ _) w hA p.a p.len p.cap p.xs hpl hpk.c hpk.r (by omega) (hpk.s.ch0 hC) (fun g o e hl hg => by have h5 := hpk.lt g o e (by omega); simp [feet, Chunk.foot] at hg; omega); rw [txS_ok (by omega)] at h9; exact h9) (by intro g hg; simp [feet, Chunk.foot] at hg; exact .inr (by omega)) (fun _ => rfl) ?_; intro z4 m4 hz4 hn4 hm4; obtain ⟨b4, cap4⟩ := z4; dsimp only at hz4 ⊢; refine l_nil ?_) | (refine c_region (id := 9) ?_; refine se ?_; refine ecl rfl rfl (fun w hC hm hL => by exact endok_c mm b4 cap4 (leb p.xs.length ++ p.xs) (by rw [hyl]; omega) w (hL.old (k := 2) (by (repeat (first | exact List.Mem.head _ | apply List.Mem.tail))) (by rfl)) (SlE.own hL (by (repeat (first | exact List.Mem.head _ | apply List.Mem.tail))) hz4)) ?_; intro z5 m5 hz5 hn5 hm5; obtain ⟨b5, cap5⟩ := z5; dsimp only at hz5 ⊢; refine sq qm ?_; refine sq qe ?_; refine sq qe ?_; refine sq qa ?_; refine sq qa ?_; refine l_nil ?_) | (refine c_region (id := 10) ?_; refine sq qm ?_; refine sq (by first | exact dneqt | exact dneqf) ?_; refine l_nil ?_) | (refine c_region (id := 12) ?_; refine sq qm ?_; refine sq qm ?_; refine se ?_; refine e_appE (Value.int .u8) (packL (ps.take i)) (leb p.xs.length ++ p.xs) rfl rfl rfl (by (repeat (first | exact Rm.here | apply Rm.there))) (Vw.own (bk_ob hz5.ret) (by (repeat (first | exact List.Mem.head _ | apply List.Mem.tail)))) rfl rfl ho (allOne_u8L _) (by omega) (by omega) ?_; intro b2 cap2 m2 ho2 hm2; refine sq qa ?_; refine l_nil ?_) | (refine c_region (id := 13) ?_; refine sq qadd64 ?_; refine sq qm ?_; refine l_nil ?_) | refine n_then ?_ | refine c_block ?_ | refine c_skip ?_ | refine n_block ?_ | refine c_exit ?_ | refine n_then_exit ?_ | refine n_block_eq ?_ | refine n_block_ne rfl ?_ | refine c_ret ?_ | refine n_then_ret ?_ | refine n_block_ret ?_ | refine c_cond_t rfl ?_ | refine c_cond_f rfl ?_ | refine r_succ ?_ )
    refine c_round ⟨i + 1, b2, cap2, m2⟩ ⟨by dsimp only; omega, by rw [packL_succ hp, List.length_append]; exact ho2, by dsimp only; omega⟩ (by dsimp only; omega) ⟨rfl, rfl, rfl, by rw [packL_succ hp]; simp only [List.length_append]; rfl, rfl, trivial⟩ (by rfl) (by dsimp only; rw [packL_succ hp]; exact (by (repeat (first | exact List.nil_sublist _ | exact List.Sublist.slnil | apply List.Sublist.cons_cons | exact List.Sublist.refl _ | apply List.Sublist.cons))))
  · obtain rfl : i = ps.length := by omega
    rw [List.take_length] at hle ho ⊢
    repeat (first | refine c_seq ?_ | (refine c_region (id := 5) ?_; refine sq (by first | exact dlsst | exact dlssf) ?_; refine l_nil ?_) | (refine c_region (id := 14) ?_; refine sq qm ?_; refine sq qls ?_; refine sq qm ?_; refine sq (by first | exact dgtrt | exact dgtrf) ?_; refine l_nil ?_) | (refine c_region (id := 16) ?_; refine sq qm ?_; refine sq qa ?_; refine sq qa ?_; refine l_nil ?_) | refine n_then ?_ | refine c_block ?_ | refine c_skip ?_ | refine n_block ?_ | refine c_exit ?_ | refine n_then_exit ?_ | refine n_block_eq ?_ | refine n_block_ne rfl ?_ | refine c_ret ?_ | refine n_then_ret ?_ | refine n_block_ret ?_ | refine c_cond_t rfl ?_ | refine c_cond_f rfl ?_ | refine r_succ ?_ )
    (first | apply r_ret (b, cap) | apply r_end (b, cap)); exact rfl; exact rfl; exact (.tmp rfl (.tmp rfl .nil)); exact rfl; exact (by exact (by (repeat (first | exact List.nil_sublist _ | exact List.Sublist.slnil | apply List.Sublist.cons_cons | exact List.Sublist.refl _ | apply List.Sublist.cons)))); exact (new_sl ho.newc new_nil); exact ho.ret
end Go.Proofs.YtgmghkakiocmjaaDoor
namespace Go.Proofs.YtgmghkakiocmjaaDoor
open Go Go.RowKit
set_option linter.unusedVariables false
set_option linter.unusedSimpArgs false
theorem CPrt.Ok.chn {w w' : World} {p : CPrt} {X : List Nat} (h : p.Ok w) (hC : Ch X w w') (hx : ∀ g o, p.a = some ⟨g, o, none⟩ → 0 < p.xs.length → g ∉ X) : p.Ok w' := ⟨h.s.chn hC hx, h.l, h.c, h.r⟩
abbrev StD (gs : Nat) (at_ : Bool) (ga : Nat) (ba : Option Addr) (ca : Nat) (ha : Hd) (bsa : List Int) (fra : Nat) (gb : Nat) (bb : Option Addr) (cb : Nat) (hb : Hd) (bsb : List Int) (frb room gd gw gm : Nat) (D : Dk) : List Chunk :=
  .blk gs (.cells (stC at_ ga gb) 55 (0, 0)) :: .sl ba ca 5 1 ((bsa).map (Value.int .u8)) :: LgB ga gd fra room ha (.slice ba bsa.length ca) false :: .sl bb cb 5 1 ((bsb).map (Value.int .u8)) :: LgB gb gd frb room hb (.slice bb bsb.length cb) false :: DskL gd gw gm D
set_option maxRecDepth 100000 in
set_option maxHeartbeats 4000000 in
theorem add_y (gs : Nat) (at_ : Bool) (ga : Nat) (ba : Option Addr) (ca : Nat) (ha : Hd) (bsa : List Int) (fra gb : Nat) (bb : Option Addr) (cb : Nat) (hb : Hd) (bsb : List Int) (frb room gd : Nat) (gw gm : Nat) (D : Dk) (nd : Nat) (hok : D.OK nd) (hbka : BK ba ca bsa.length) (hla : bsa.length ≤ room) (hroom : room ≤ 60000) (hfit : fra + 2 + (room + 63) / 64 ≤ nd) (hse : 0 ≤ ha.ser ∧ ha.ser < 4611686018427387904) (ap : Option Addr) (cp0 : Nat) (ps : List CPrt) (hps4 : ∀ p ∈ ps, p.len ≤ 4096) (hfp : bsa.length + (packL ps).length ≤ room) (hpn : ps.length ≤ 1000000) (h1 : Hd) (pp : Nat) (hpp : (pp : Int) = h1.ser % 2) (hs1 : h1.ser = ha.ser + 1) (hc1 : h1.cnt = (bsa ++ packL ps).length) (hnt1 : h1.nt = ha.nt) (r : Bool × Dk) (hr : r = appR fra pp h1 bsa (packL ps) D) (hrt : r.1 = true) (w : World) (hS : Has (StD gs at_ ga ba ca ha bsa fra gb bb cb hb bsb frb room gd gw gm D) w) (hps : ∀ p ∈ ps, p.Ok w) (hO : SlE CPrt.v w ap ps) (hpx : ∀ p ∈ ps, ∀ g o, p.a = some ⟨g, o, none⟩ → 0 < p.xs.length → g ∉ (feet (LogL ga gd gw gm fra room ha ba ca bsa D))) (hox : ∀ g o, ap = some ⟨g, o, none⟩ → 0 < ps.length → g ∉ (feet (LogL ga gd gw gm fra room ha ba ca bsa D))) (hne : 0 < ps.length) :
    CA Tryd.prog 9 [.pointer (some ⟨gs, 0, none⟩), .slice ap ps.length cp0] w (Ret (fun _ : Option Addr × Nat => .int .i64 0) (feet (LogL ga gd gw gm fra room ha ba ca bsa D)) (fun z => LogL ga gd gw gm fra room h1 z.1 z.2 (bsa ++ packL ps) r.2) (fun z => BK z.1 z.2 (bsa ++ packL ps).length) w) := by
  refine enter (L := (StD gs at_ ga ba ca ha bsa fra gb bb cb hb bsb frb room gd gw gm D)) (X := (feet (LogL ga gd gw gm fra room ha ba ca bsa D))) Tryd.func9 rfl Tryd.ntmps9 rfl rfl hS ?_
  repeat (first | refine c_seq ?_ | (refine c_region (id := 0) ?_; refine sq qa ?_; refine l_nil ?_) | (refine c_region (id := 1) ?_; refine sq qm ?_; refine sq qm ?_; refine sq qm ?_; refine se ?_; refine ecp rfl rfl (fun w hC hm hL => by have h9 := sroom_c gs at_ ga ba ca ha bsa fra gb bb cb hb bsb frb room gd ⟨hla, by omega⟩ w (hL.sub (by (repeat (first | exact List.nil_sublist _ | exact List.Sublist.slnil | apply List.Sublist.cons_cons | exact List.Sublist.refl _ | apply List.Sublist.cons)))); rw [show ((room : Int) - bsa.length) = ((room - bsa.length : Nat) : Int) by omega] at h9; exact h9) ?_; intro m' hm'; refine se ?_; refine ecl rfl rfl (fun w hC hm hL => by exact packed_ok gs at_ ga ba ca ha bsa fra gb bb cb hb bsb frb room gd ap cp0 ps (room - bsa.length) (by omega) hps4 (by omega) (by omega) w (hL.sub (by (repeat (first | exact List.nil_sublist _ | exact List.Sublist.slnil | apply List.Sublist.cons_cons | exact List.Sublist.refl _ | apply List.Sublist.cons)))) (fun p hp => (hps p hp).chn hC (fun g o e hl => hpx p hp g o e hl)) (hO.chn hC hox)) ?_; intro z5 m5 hz5 hn5 hm5; obtain ⟨b5, cap5⟩ := z5; dsimp only at hz5 ⊢; refine sq qm ?_; refine sq qe ?_; refine sq qe ?_; refine sq qa ?_; refine sq qa ?_; refine l_nil ?_) | (refine c_region (id := 2) ?_; refine sq qm ?_; refine sq (by exact q_neq_nn (hx := rfl)) ?_; refine l_nil ?_) | (refine c_region (id := 4) ?_; refine sq qm ?_; refine sq qls ?_; refine sq (by first | exact deqlt | exact deqlf) ?_; refine sq qm ?_; (first | refine sk ?_ | refine skv ?_ | (refine st_want rfl rfl ?_; refine sq qm ?_)); (first | refine sk ?_ | refine skv ?_ | (refine st_want rfl rfl ?_; refine se ?_; refine ecp rfl rfl (fun w hC hm hL => by exact slog_c at_ gs ga gb w (hL.old (k := 3) (by (repeat (first | exact List.Mem.head _ | apply List.Mem.tail))) (by cases at_ <;> rfl))) ?_; intro m' hm')); (first | refine sk ?_ | refine skv ?_ | (refine st_want rfl rfl ?_; refine se ?_; fail)); (first | refine sk ?_ | refine skv ?_ | (refine st_want rfl rfl ?_; refine sq (by first | exact dlsst | exact dlssf) ?_)); refine sq (by first | exact qpt | exact qpf) ?_; refine l_nil ?_) | refine n_then ?_ | refine c_block ?_ | refine c_skip ?_ | refine n_block ?_ | refine c_exit ?_ | refine n_then_exit ?_ | refine n_block_eq ?_ | refine n_block_ne rfl ?_ | refine c_ret ?_ | refine n_then_ret ?_ | refine n_block_ret ?_ | refine c_cond_t rfl ?_ | refine c_cond_f rfl ?_ | refine r_succ ?_ )
  repeat (first | refine c_seq ?_ | (refine c_region (id := 6) ?_; refine sq qm ?_; refine se ?_; refine ecp rfl rfl (fun w hC hm hL => by exact slog_c at_ gs ga gb w (hL.old (k := 3) (by (repeat (first | exact List.Mem.head _ | apply List.Mem.tail))) (by cases at_ <;> rfl))) ?_; intro m' hm'; refine sq qm ?_; refine sq qm ?_; refine se ?_; refine ecp rfl rfl (fun w hC hm hL => by exact slog_c at_ gs ga gb w (hL.old (k := 3) (by (repeat (first | exact List.Mem.head _ | apply List.Mem.tail))) (by cases at_ <;> rfl))) ?_; intro m' hm'; refine se ?_; refine ecp rfl rfl (fun w hC hm hL => by exact note_c ga gd fra room ha _ false w (hL.sub (by (repeat (first | exact List.nil_sublist _ | exact List.Sublist.slnil | apply List.Sublist.cons_cons | exact List.Sublist.refl _ | apply List.Sublist.cons))))) ?_; intro m' hm'; refine se ?_; refine e_callX (LogL ga gd gw gm fra room ha ba ca bsa D) _ rfl rfl (by kernel_rfl) rfl (by (repeat (first | exact Sp.nil | (apply Sp.cons; focus (repeat (first | exact Rm.here | apply Rm.there)))))) (fun w hC hm hA hL hap => by have h9 := append_y ga gd gw gm fra room ha h1 ba ca bsa D nd hok (os_log hbka.1 hbka.2.1 hbka.2.2) hla (by omega) hfit ⟨hse.1, hse.2⟩ pp hpp hs1 b5 (packL ps).length cap5 (packL ps) hc1 rfl (by omega) (SlE.own hL (by (repeat (first | exact List.Mem.head _ | apply List.Mem.tail))) (os_bk hz5)) (fun g o e _ => apart_sl (by (repeat (first | exact List.Mem.head _ | apply List.Mem.tail))) hap g o e) r hr hrt hA; rw [hnt1] at h9; exact h9) (fun g hg => .inl hg) (fun _ => rfl) ?_; intro z6 m6 hz6 hn6 hm6; obtain ⟨b6, cap6⟩ := z6; dsimp only at hz6 ⊢; refine se ?_; refine ecp rfl rfl (fun w hC hm hL => by exact failed_ok _ w) ?_; intro m' hm'; refine se ?_; refine ecp rfl rfl (fun w hC hm hL => by exact told_ok w) ?_; intro m' hm'; refine sq qa ?_; refine l_nil ?_) | refine n_then ?_ | refine c_block ?_ | refine c_skip ?_ | refine n_block ?_ | refine c_exit ?_ | refine n_then_exit ?_ | refine n_block_eq ?_ | refine n_block_ne rfl ?_ | refine c_ret ?_ | refine n_then_ret ?_ | refine n_block_ret ?_ | refine c_cond_t rfl ?_ | refine c_cond_f rfl ?_ | refine r_succ ?_ )
  refine fgs (A := LogL ga gd gw gm fra room h1 b6 cap6 (bsa ++ packL ps) r.2) (by (repeat (first | exact Sp.nil | (apply Sp.cons; focus (repeat (first | exact Rm.here | apply Rm.there)))))) ?_
  (first | apply r_ret (b6, cap6) | apply r_end (b6, cap6)); exact rfl; exact rfl; exact (.tmp rfl .nil); exact rfl; exact (List.Sublist.refl _); exact hn6; exact hz6
end Go.Proofs.YtgmghkakiocmjaaDoor
namespace Go.Proofs.YtgmghkakiocmjaaDoor
open Go Go.RowKit
set_option linter.unusedVariables false
set_option linter.unusedSimpArgs false
theorem hpkP (m : Nat) : packL [(⟨some ⟨m, 0, none⟩, 1, 1, [120]⟩ : CPrt)] = [1, 120] := by
  show leb 1 ++ [120] ++ [] = _
  rw [leb_small (by decide)]; rfl
theorem rec1 : recs (([] : List Int) ++ [1, 120]) = [[120]] := by
  have h := recs_ok (ys := [1, 120]) (x := 1) (n := 1) (by rfl) (by decide) (by decide) (by decide)
  rw [List.nil_append, h]
  rfl
set_option maxRecDepth 100000 in
set_option maxHeartbeats 4000000 in
theorem sawk_c (w : World) : CA Tryd.prog 6 [] w (RV (.bool true) w) := by
  obtain ⟨h1, hh1⟩ : ∃ h1 : Hd, h1 = ⟨1, (([] : List Int) ++ [1, 120]).length, hdZ.nt⟩ := ⟨_, rfl⟩
  have hK1 : HdK h1 := by
    rw [hh1]
    exact ⟨⟨by decide, by decide⟩, ⟨by decide, by decide⟩, RB.zero, fun j hj => rfl⟩
  obtain ⟨r, hr⟩ : ∃ r, r = appR 0 1 h1 [] [1, 120] (Dk.new 6) := ⟨_, rfl⟩
  have hrt : r.1 = true := by
    rw [hr]
    exact ((LogAt.new 6 0 3).append (by decide) (by omega) ⟨rfl, rfl⟩ (RG.new 6) hK1 (by rw [hh1]; rfl) (by decide) (by rw [hh1]) (by simp) (by simp) 1 (by rw [hh1]; rfl)).1
  have hrc := rec1
  refine enter (L := []) (X := []) Tryd.func6 rfl Tryd.ntmps6 rfl rfl (Has.nil _) ?_
  repeat (first | refine c_seq ?_ | (refine c_region (id := 0) ?_; refine sq qa ?_; refine l_nil ?_) | (refine c_region (id := 1) ?_; refine se ?_; refine ecl rfl rfl (fun w hC hm hL => by exact newd_c 6 (by omega) w) ?_; intro z1 m1 _ hn1 hm1; obtain ⟨gd1, gw1, gm1⟩ := z1; have hg1 : w.heap.size ≤ gd1 ∧ w.heap.size ≤ gw1 ∧ w.heap.size ≤ gm1 := ⟨(by have h9 := hn1 gd1 (by simp [feetD]); omega), (by have h9 := hn1 gw1 (by simp [feetD]); omega), (by have h9 := hn1 gm1 (by simp [feetD]); omega)⟩; clear hn1; dsimp only; refine chg (L' := DskL gd1 gw1 gm1 (Dk.new 6)) (by rfl) ?_; refine se ?_; refine ecl rfl rfl (fun w hC hm hL => by exact sopen_0 gd1 gw1 gm1 (Dk.new 6) rfl (by decide) (RG.new 6) (by decide) 3 (by decide) hdZ hdZ [] [] (LogAt.new 6 0 3) (LogAt.new 6 3 3) hdZ_K hdZ_K (Int.lt_irrefl _) w (hL.sub (by (repeat (first | exact List.nil_sublist _ | exact List.Sublist.slnil | apply List.Sublist.cons_cons | exact List.Sublist.refl _ | apply List.Sublist.cons))))) ?_; intro z2 m2 hz2 hn2 hm2; obtain ⟨gs2, ⟨ga2, ba2, ca2⟩, ⟨gb2, bb2, cb2⟩⟩ := z2; have hqs2 : w.heap.size ≤ gs2 := (by have := hn2 gs2 (by simp [feet, Chunk.foot]); omega); have hqa2 : w.heap.size ≤ ga2 := (by have := hn2 ga2 (by simp [feet, Chunk.foot]); omega); have hqb2 : w.heap.size ≤ gb2 := (by have := hn2 gb2 (by simp [feet, Chunk.foot]); omega); have hba2 : ∀ g, ba2 = some ⟨g, 0, none⟩ → w.heap.size ≤ g := (fun g e => by have := hn2 g (by simp [feet, Chunk.foot, e]); omega); have hbb2 : ∀ g, bb2 = some ⟨g, 0, none⟩ → w.heap.size ≤ g := (fun g e => by have := hn2 g (by simp [feet, Chunk.foot, e]); omega); dsimp only at hz2 ⊢; refine sq qm ?_; refine sq qe ?_; refine sq qe ?_; refine sq qa ?_; refine sq qa ?_; refine l_nil ?_) | refine n_then ?_ | refine c_block ?_ | refine c_skip ?_ | refine n_block ?_ | refine c_exit ?_ | refine n_then_exit ?_ | refine n_block_eq ?_ | refine n_block_ne rfl ?_ | refine c_ret ?_ | refine n_then_ret ?_ | refine n_block_ret ?_ | refine c_cond_t rfl ?_ | refine c_cond_f rfl ?_ | refine r_succ ?_ )
  have hpk0 : ∀ m, packL [(⟨some ⟨m, 0, none⟩, 1, 1, [120]⟩ : CPrt)] = [1, 120] := hpkP
  repeat (first | refine c_seq ?_ | (refine c_region (id := 2) ?_; refine sq qm ?_; refine sq (by first | exact deqlt | exact deqlf) ?_; refine sq qm ?_; (first | refine sk ?_ | refine skv ?_ | (refine st_want rfl rfl ?_; refine sq qm ?_)); (first | refine sk ?_ | refine skv ?_ | (refine st_want rfl rfl ?_; refine sq (by exact q_neq_pnil rfl rfl (by kernel_rfl)) ?_)); refine sq (by first | exact qpt | exact qpf) ?_; refine sq qm ?_; (first | refine sk ?_ | refine skv ?_ | (refine st_want rfl rfl ?_; refine sq qm ?_)); (first | refine sk ?_ | refine skv ?_ | (refine st_want rfl rfl ?_; refine se ?_; refine ecp rfl rfl (fun w hC hm hL => by have h9 := sroom_c gs2 false ga2 ba2 ca2 hdZ [] 0 gb2 bb2 cb2 hdZ [] 3 ((3 - 2) * 64) gd1 (by simp) w (Has.sel hL (by (repeat (first | exact Sel.nil | (refine Sel.cons (by (repeat (first | exact Rm.here | apply Rm.there))) ?_))))); rw [List.length_nil] at h9; exact h9) ?_; intro m' hm')); (first | refine sk ?_ | refine skv ?_ | (refine st_want rfl rfl ?_; refine sq (by first | exact deqlt | exact deqlf) ?_)); refine sq (by first | exact qpt | exact qpf) ?_; refine sq qm ?_; (first | refine sk ?_ | refine skv ?_ | (refine st_want rfl rfl ?_; refine sq qm ?_)); (first | refine sk ?_ | refine skv ?_ | (refine st_want rfl rfl ?_; refine se ?_; refine ebs ?_)); (first | refine sk ?_ | refine skv ?_ | (refine st_want rfl rfl ?_; refine se ?_; refine e_conv_const rfl rfl (by (repeat (first | exact Pl.here | apply Pl.there))) (by first | (left; simp; done) | (right; omega)) ?_)); (first | refine sk ?_ | refine skv ?_ | (refine st_want rfl rfl ?_; refine se ?_; refine ebs ?_)); (first | refine sk ?_ | refine skv ?_ | (refine st_want rfl rfl ?_; refine se ?_; refine e_callX (LogL ga2 gd1 gw1 gm1 0 ((3 - 2) * 64) hdZ ba2 ca2 [] (Dk.new 6)) _ rfl rfl (by kernel_rfl) rfl (by (repeat (first | exact Sp.nil | (apply Sp.cons; focus (repeat (first | exact Rm.here | apply Rm.there)))))) (fun w hC hm hA hL hap => by have h9 := add_y gs2 false ga2 ba2 ca2 hdZ [] 0 gb2 bb2 cb2 hdZ [] 3 ((3 - 2) * 64) gd1 gw1 gm1 (Dk.new 6) 6 (Dk.OK.new 6 (by decide)) hz2.1 (by simp) (by omega) (by omega) ⟨by decide, by decide⟩ (some ⟨m' + 1, 0, none⟩) 1 [(⟨some ⟨m', 0, none⟩, 1, 1, [120]⟩ : CPrt)] (by simp) (by rw [hpk0]; simp) (by simp) h1 1 (by rw [hh1]; rfl) (by rw [hh1]; rfl) (by rw [hh1, hpk0]) (by rw [hh1]) r (by rw [hpk0]; exact hr) hrt w (Has.sel (has_app hL hA hap) (by (repeat (first | exact Sel.nil | (refine Sel.cons (by (repeat (first | exact Rm.here | apply Rm.there))) ?_))))) (fun p hp => by simp only [List.mem_singleton] at hp; subst hp; exact ⟨SlE.blk hL (by (repeat (first | exact List.Mem.head _ | apply List.Mem.tail))) 0 1 (by rfl), rfl, Nat.le_refl _, by simp⟩) (SlE.blk (enc := CPrt.v) hL (by (repeat (first | exact List.Mem.head _ | apply List.Mem.tail))) 0 1 (by rfl)) (fun p hp g o e _ => by simp only [List.mem_singleton] at hp; subst hp; exact apart_blk (by (repeat (first | exact List.Mem.head _ | apply List.Mem.tail))) hap g o e) (fun g o e _ => apart_blk (by (repeat (first | exact List.Mem.head _ | apply List.Mem.tail))) hap g o e) (by simp); rw [hpk0] at h9; exact h9) (by intro g hg; simp only [feet, List.flatMap_cons, List.mem_append] at hg; rcases hg with h9 | h9; exact bk_new hz2.1 hba2 g h9; (simp [Chunk.foot] at h9; exact .inr (by omega))) (fun _ => rfl) ?_; intro z6 m6 hz6 hn6 hm6; obtain ⟨b6, cap6⟩ := z6; dsimp only at hz6 ⊢)); (first | refine sk ?_ | refine skv ?_ | (refine st_want rfl rfl ?_; refine sq (by first | exact deqlt | exact deqlf) ?_)); refine sq (by first | exact qpt | exact qpf) ?_; refine sq qm ?_; (first | refine sk ?_ | refine skv ?_ | (refine st_want rfl rfl ?_; refine sq qm ?_)); (first | refine sk ?_ | refine skv ?_ | (refine st_want rfl rfl ?_; refine se ?_; refine ecl rfl rfl (fun w hC hm hL => by exact records_c gs2 false ga2 b6 cap6 h1 ([] ++ [1, 120]) 0 gb2 bb2 cb2 hdZ [] 3 ((3 - 2) * 64) gd1 (by omega) (by simp) (by simp) hz6 w (Has.sel hL (by (repeat (first | exact Sel.nil | (refine Sel.cons (by (repeat (first | exact Rm.here | apply Rm.there))) ?_)))))) ?_; intro z7 m7 hz7 hn7 hm7; obtain ⟨b7, cap7, ps7⟩ := z7; dsimp only at hz7 ⊢; have hl7 : ps7.length = 1 := (by have h8 := congrArg List.length hz7.2.1; rw [hrc] at h8; simpa using h8))); (first | refine sk ?_ | refine skv ?_ | (refine st_want rfl rfl ?_; refine sq qls ?_)); (first | refine sk ?_ | refine skv ?_ | (refine st_want rfl rfl ?_; refine sq (by first | exact deqlt | exact deqlf) ?_)); refine sq (by first | exact qpt | exact qpf) ?_; refine sq qa ?_; refine l_nil ?_) | refine n_then ?_ | refine c_block ?_ | refine c_skip ?_ | refine n_block ?_ | refine c_exit ?_ | refine n_then_exit ?_ | refine n_block_eq ?_ | refine n_block_ne rfl ?_ | refine c_ret ?_ | refine n_then_ret ?_ | refine n_block_ret ?_ | refine c_cond_t rfl ?_ | refine c_cond_f rfl ?_ | refine r_succ ?_ )
  (first | apply r_ret () | apply r_end ()); exact rfl; exact rfl; exact (.tmp rfl .nil); exact rfl; exact (List.nil_sublist _); exact new_nil; exact trivial
end Go.Proofs.YtgmghkakiocmjaaDoor
namespace Go.Proofs.YtgmghkakiocmjaaDoor
open Go Go.RowKit Go.ChangeShapes Go.WideShapes
set_option linter.unusedVariables false
structure Tx (w : World) (a : Option Addr) (len cap : Nat) (xs : List Int) : Prop where
  l : xs.length = len
  c : len ≤ cap
  m : cap ≤ 9223372036854775807
  s : SlE (Value.int .u8) w a xs
  r : ∀ x ∈ xs, 0 ≤ x ∧ x ≤ 255
theorem pair_of {P : Program} {w : World} {T E : TypeId} {k : IntKind} (hU : P.underlying T = some (.array 2 E)) (hE : P.underlying E = some (.int k)) (hc : P.cellsOf E = 1) (hcT : P.cellsOf T = 2) {v : Value} {r : Reach} {base : Nat} (hok : Value.okWide P w r base T v) (h : Reads P w T v.cells.toList) :
    ∃ x y : Int, (Lit.int k x).wf = true ∧ (Lit.int k y).wf = true ∧ v = .agg #[.int k x, .int k y] := by
  obtain ⟨cs, rfl⟩ := okWide_row (.inl ⟨_, _, hU⟩) hok
  obtain ⟨xs, h1, h2, h3⟩ := h.ints hU hE hc hcT
  match xs, h1 with
  | [x, y], _ =>
    have e : cs.toList = [Value.int k x, Value.int k y] := by simpa [Value.cells] using h2
    refine ⟨x, y, h3 x (by simp), h3 y (by simp), ?_⟩
    congr 1
    apply Array.ext'
    simpa using e
theorem text_of {P : Program} {w : World} {S E : TypeId} (hS : P.underlying S = some (.slice E)) (hE : P.underlying E = some (.int .u8)) (hc : P.cellsOf E = 1) {v : Value} {r : Reach} {base : Nat} (hok : Value.okWide P w r base S v) (h : Reads P w S v.cells.toList) :
    ∃ a l c xs, v = .slice a l c ∧ Tx w a l c xs := by
  obtain ⟨a, l, c, rfl⟩ := okWide_slice hS hok
  have h' : Reads P w S [.slice a l c] := h
  obtain ⟨a', l', c', xs, e0, p1, p2, p3, p4, p5⟩ := h'.bytes hS hE hc
  simp at e0
  obtain ⟨rfl, rfl, rfl⟩ := e0
  exact ⟨a, l, c, xs, rfl, ⟨p1, p2, by simpa [maxLen] using p3, p4, p5⟩⟩
end Go.Proofs.YtgmghkakiocmjaaDoor
namespace Go.Proofs.YtgmghkakiocmjaaDoor
open Go Go.RowKit
set_option linter.unusedVariables false
set_option linter.unusedSimpArgs false
structure OpI where
  kd : Int
  x : Int
  i : Int
  a : Option Addr
  len : Nat
  cap : Nat
  xs : List Int
def OpI.enc (p : OpI) : List Value := [.int .u8 p.kd, .int .u8 p.x, .int .i64 p.i, .slice p.a p.len p.cap]
structure OpI.Ok (w : World) (p : OpI) : Prop where
  s : SlE (Value.int .u8) w p.a p.xs
  l : p.xs.length = p.len
  c : p.len ≤ p.cap
  m : p.len ≤ 9223372036854775807
  k : 0 ≤ p.kd ∧ p.kd ≤ 255
  xb : 0 ≤ p.x ∧ p.x ≤ 255
  ib : -9223372036854775808 ≤ p.i ∧ p.i ≤ 9223372036854775807
  r : ∀ x ∈ p.xs, 0 ≤ x ∧ x ≤ 255
theorem OpI.Ok.ch0 {w w' : World} {p : OpI} (h : p.Ok w) (hC : Ch [] w w') : p.Ok w' := ⟨h.s.ch0 hC, h.l, h.c, h.m, h.k, h.xb, h.ib, h.r⟩
theorem LogAt.head {D : Dk} {fr kn : Nat} {h h' : Hd} {bs bs' : List Int} (hl : LogAt D fr kn h bs) (hfr : fr + kn ≤ D.secs.length) (hk : 3 ≤ kn) (hf : D.Free) (hg : RG D) (hK : HdK h') (hs : h'.ser = h.ser + 1) (hs0 : 0 ≤ h.ser) (hc : h'.cnt = bs'.length) (hroom : bs'.length ≤ (kn - 2) * 64) (hb : rmL (fun i => D.at (fr + i)) bs'.length = bs') (p : Nat) (hp : (p : Int) = h'.ser % 2) :
    WF [(fr + p, secH h')] D (wrAll [(fr + p, secH h')] D) ∧ LogAt (wrAll [(fr + p, secH h')] D).2 fr kn h' bs' := by
  have hp2 : p < 2 := by omega
  have hw := wrAll_free [(fr + p, secH h')] D (fun e he => by simp only [List.mem_singleton] at he; subst he; exact ⟨by dsimp only; omega, secH_RB hK⟩) hf hg
  have hat := wrHead_at (fr + p) (secH h') D hf (by omega)
  refine ⟨hw, ⟨?_, hc, hroom, ?_⟩⟩
  · refine next_head hl.st hK hs hs0 (by rw [hc]; exact_mod_cast hroom) p hp ?_ ?_
    · rw [hat, if_pos rfl]
    · rw [hat, if_neg (by omega)]
  · refine rmL_ext fun q hq => ?_
    rw [hat, if_neg (by omega)]
    exact rmL_get hb q hq
end Go.Proofs.YtgmghkakiocmjaaDoor
namespace Go.Proofs.YtgmghkakiocmjaaDoor
open Go Go.RowKit
set_option linter.unusedVariables false
set_option linter.unusedSimpArgs false
theorem recs_len : ∀ (k : Nat) (ys : List Int), ys.length ≤ k → (recs ys).length ≤ ys.length
  | 0, ys, h => by
    obtain rfl : ys = [] := List.eq_nil_of_length_eq_zero (by omega)
    simp [recs, recF]
  | k + 1, ys, h => by
    by_cases hc : (numX ys).2 ≠ 0 ∧ (numX ys).1 ≤ 4096 ∧ (numX ys).2 + (numX ys).1 ≤ ys.length
    · have h9 := recs_ok (ys := ys) (x := (numX ys).1) (n := (numX ys).2) rfl hc.1 hc.2.1 hc.2.2
      have h8 := recs_len k (ys.drop ((numX ys).2 + (numX ys).1)) (by simp; omega)
      rw [h9, List.length_cons]
      rw [List.length_drop] at h8
      omega
    · rw [recs_no (by omega)]; simp
end Go.Proofs.YtgmghkakiocmjaaDoor
namespace Go.Proofs.YtgmghkakiocmjaaDoor
open Go Go.RowKit
set_option linter.unusedVariables false
set_option linter.unusedSimpArgs false
def toI (x : Nat) : Int := if x < 9223372036854775808 then (x : Int) else (x : Int) - 18446744073709551616
def gotX (ys : List Int) (kd x : Nat) : Option (Nat × List Int × Nat) :=
  if kd % 4 = 0 then (if (numX ys).2 = 0 ∨ x < (numX ys).1 then none else some ((numX ys).1, [], (numX ys).2))
  else if kd % 4 = 1 then (if (numX ys).2 = 0 ∨ toI x < 0 ∨ toI x < ((numX ys).1 : Int) ∨ 4096 < (numX ys).1 ∨ ys.length < (numX ys).2 + (numX ys).1 then none else some (0, (ys.drop (numX ys).2).take (numX ys).1, (numX ys).2 + (numX ys).1))
  else if kd % 4 = 2 then (if toI x < 0 ∨ (ys.length : Int) < toI x then none else some (0, ys.take (toI x).toNat, (toI x).toNat))
  else if ys.length = 0 ∨ 1 < ys.getD 0 0 then none else some ((ys.getD 0 0).toNat, [], 1)
end Go.Proofs.YtgmghkakiocmjaaDoor
namespace Go.Proofs.YtgmghkakiocmjaaDoor
open Go Go.RowKit
set_option linter.unusedVariables false
set_option linter.unusedSimpArgs false
structure PP where
  kd : Nat
  x : Nat
  a : Option Addr
  len : Nat
  cap : Nat
  xs : List Int
def PP.enc (p : PP) : List Value := [.int .u8 (p.kd : Int), .int .u64 (p.x : Int), .slice p.a p.len p.cap]
structure PP.Ok (w : World) (p : PP) : Prop where
  s : SlE (Value.int .u8) w p.a p.xs
  l : p.xs.length = p.len
  c : p.len ≤ p.cap
  m : p.len ≤ 9223372036854775807
  r : ∀ x ∈ p.xs, 0 ≤ x ∧ x ≤ 255
  k : p.kd < 256
  x : p.x < 18446744073709551616
def putX (xs : List Int) (lg : Bool) (kd x : Nat) (ys : List Int) : List Int × Bool :=
  if kd % 4 = 0 then pS xs lg (leb x) else if kd % 4 = 1 then txS xs lg ys else if kd % 4 = 2 then pS xs lg ys else pS xs lg [if decide (x % 2 = 1) = true then 1 else 0]
end Go.Proofs.YtgmghkakiocmjaaDoor
namespace Go.Proofs.YtgmghkakiocmjaaDoor
open Go Go.RowKit
set_option linter.unusedVariables false
set_option linter.unusedSimpArgs false
def PP.bytes (p : PP) : List Int := if p.kd % 4 = 0 then leb p.x else if p.kd % 4 = 1 then leb p.xs.length ++ p.xs else if p.kd % 4 = 2 then p.xs else [if decide (p.x % 2 = 1) = true then 1 else 0]
def PP.put (s : List Int × Bool) (p : PP) : List Int × Bool := putX s.1 s.2 p.kd p.x p.xs
theorem numF_leb (r : List Int) (x : Nat) : ∀ (n0 acc : Nat), x * 128 ^ n0 < 18446744073709551616 → n0 ≤ 9 → (0 < n0 → x ≠ 0) → numF (leb x ++ r) n0 acc = (acc + x * 128 ^ n0, n0 + (leb x).length) := by
  induction x using Nat.strongRecOn with
  | ind x ih =>
    intro n0 acc hx hn h0
    have h99 : (128 : Nat) ^ 9 = 9223372036854775808 := by decide
    by_cases h : x < 128
    · rw [leb_small h]
      simp only [List.singleton_append, numF, Int.toNat_natCast]
      rw [if_pos h, if_neg (fun hh => h0 hh.2 hh.1), if_neg (by rintro ⟨rfl, h2⟩; rw [h99] at hx; omega)]
      rfl
    · rw [leb_big h]
      simp only [List.cons_append, numF, Int.toNat_natCast]
      have hn9 : n0 ≠ 9 := by rintro rfl; rw [h99] at hx; omega
      have e1 : (x / 128) * 128 ^ (n0 + 1) ≤ x * 128 ^ n0 := pow_step (Nat.le_refl _)
      rw [if_neg (by omega), if_neg hn9, ih (x / 128) (by omega) (n0 + 1) _ (by omega) (by omega) (fun _ => by omega)]
      have e2 : (x % 128 + 128) % 128 = x % 128 := by omega
      rw [e2]
      have e3 : x * 128 ^ n0 = x % 128 * 128 ^ n0 + x / 128 * 128 ^ (n0 + 1) := by
        rw [Nat.pow_succ, Nat.mul_comm (128 ^ n0) 128, ← Nat.mul_assoc, ← Nat.add_mul]
        congr 1
        omega
      rw [e3, List.length_cons]
      congr 1
      · omega
      · omega
theorem numX_leb {x : Nat} (r : List Int) (hx : x < 18446744073709551616) : numX (leb x ++ r) = (x, (leb x).length) := by
  unfold numX
  rw [numF_leb r x 0 0 (by simpa using hx) (by omega) (by omega)]
  simp
end Go.Proofs.YtgmghkakiocmjaaDoor
namespace Go.Proofs.YtgmghkakiocmjaaDoor
open Go Go.RowKit
set_option linter.unusedVariables false
set_option linter.unusedSimpArgs false
theorem appR_at {fr p : Nat} {h' : Hd} {bs ys : List Int} {D : Dk} (hf : D.Free) (hg : RG D) (hK : HdK h') (hp : p < 2) (hx : ∀ x ∈ bs ++ ys, 0 ≤ x ∧ x ≤ 255) (hfit : fr + 2 + ((bs ++ ys).length + 63) / 64 ≤ D.secs.length) (j : Nat) (hj : j < fr ∨ fr + 2 + ((bs ++ ys).length + 63) / 64 ≤ j) : (appR fr p h' bs ys D).2.at j = D.at j := by
  have hlen : (bs ++ ys).length = bs.length + ys.length := List.length_append
  unfold appR
  by_cases hy : ys = []
  · subst hy
    rw [if_pos rfl, wrHead_at _ _ D hf (by omega), if_neg (by omega)]
  · rw [if_neg hy]
    have hw := wrAll_free (rmW fr (bs ++ ys) (((bs ++ ys).length + 63) / 64 - bs.length / 64) (bs.length / 64)) D (fun e he => ⟨by have := rmW_lt _ _ e he; omega, rmW_RB hx _ _ e he⟩) hf hg
    have hat := wrRoom_at fr (bs ++ ys) (((bs ++ ys).length + 63) / 64 - bs.length / 64) (bs.length / 64) D hf (by omega)
    rw [if_pos hw.ok, wrHead_at _ _ _ hw.free (by rw [hw.len]; omega), if_neg (by omega), hat, if_neg (by omega)]
theorem LogAt.cong {D D' : Dk} {fr kn : Nat} {h : Hd} {bs : List Int} (hl : LogAt D fr kn h bs) (hk : 3 ≤ kn) (he : ∀ j, j < kn → D'.at (fr + j) = D.at (fr + j)) : LogAt D' fr kn h bs := by
  have hle := hl.le
  refine ⟨?_, hl.cnt, hl.le, ?_⟩
  · rw [← hl.st]
    exact stI_at (he 0 (by omega)) (he 1 (by omega))
  · refine rmL_ext fun q hq => ?_
    have h9 := rmL_get hl.bytes q hq
    try dsimp only at h9 ⊢
    rw [he _ (by omega)]
    exact h9
theorem packL_one (p : CPrt) : packL [p] = leb p.xs.length ++ p.xs := by simp [packL]
theorem packL_snoc {ps : List CPrt} {i : Nat} {p : CPrt} (h : ps[i]? = some p) : packL (ps.take (i + 1)) = packL (ps.take i) ++ packL [p] := by rw [packL_one]; exact packL_succ h
structure SG (ps : List CPrt) (i : Nat) (D : Dk) (h : Hd) : Prop where
  ok : D.OK 200
  fre : D.Free
  rg : RG D
  la : LogAt D 0 100 h (packL (ps.take i))
  lb : LogAt D 100 100 hdZ []
  K : HdK h
  ser : h.ser = i
  nt : h.nt = hdZ.nt
  len : (packL (ps.take i)).length ≤ 101 * i
  rng : ∀ x ∈ packL (ps.take i), 0 ≤ x ∧ x ≤ 255
theorem SG.zero (ps : List CPrt) : SG ps 0 (Dk.new 200) hdZ :=
  ⟨Dk.OK.new 200 (by decide), ⟨rfl, rfl⟩, RG.new 200, LogAt.new 200 0 100, LogAt.new 200 100 100, hdZ_K, rfl, rfl, by simp [packL], by simp [packL]⟩
theorem SG.next {ps : List CPrt} {i : Nat} {D : Dk} {h : Hd} (hJ : SG ps i D h) (hi : i < 20) {p : CPrt} (hp : ps[i]? = some p) (hl : p.xs.length ≤ 100) (hr : ∀ x ∈ p.xs, 0 ≤ x ∧ x ≤ 255) (pp : Nat) (h1 : Hd) (hh1 : h1 = ⟨(i : Int) + 1, (packL (ps.take i) ++ packL [p]).length, h.nt⟩) (hpp : (pp : Int) = h1.ser % 2) : (appR 0 pp h1 (packL (ps.take i)) (packL [p]) D).1 = true ∧ SG ps (i + 1) (appR 0 pp h1 (packL (ps.take i)) (packL [p]) D).2 h1 := by
  have hlen := hJ.len
  have hser := hJ.ser
  have hp1 : (packL [p]).length = 1 + p.xs.length := by rw [packL_one, leb_small (by omega)]; simp; omega
  have hal : (packL (ps.take i) ++ packL [p]).length = (packL (ps.take i)).length + (packL [p]).length := List.length_append
  have hK : HdK h1 := by
    rw [hh1]
    exact ⟨⟨by dsimp only; omega, by dsimp only; omega⟩, ⟨by dsimp only; omega, by dsimp only; omega⟩, hJ.K.nt, hJ.K.hi⟩
  have hrr : ∀ x ∈ packL (ps.take i) ++ packL [p], 0 ≤ x ∧ x ≤ 255 := fun x hx => (List.mem_append.1 hx).elim (hJ.rng x) (packL_rng (ps := [p]) (by simpa using hr) x)
  obtain ⟨k1, k2, k3, k4, k5, k6, k7⟩ := hJ.la.append (h' := h1) (ys := packL [p]) (by rw [hJ.ok.len]; decide) (by omega) hJ.fre hJ.rg hK (by rw [hh1]; dsimp only; omega) (by omega) (by rw [hh1]) (by omega) hrr pp hpp
  have hat := fun j hj => appR_at (fr := 0) (p := pp) (h' := h1) (bs := packL (ps.take i)) (ys := packL [p]) hJ.fre hJ.rg hK (by omega) hrr (by rw [hJ.ok.len]; omega) j hj
  refine ⟨k1, appR_OK hJ.ok (by omega) (by omega), k3, k4, by rw [packL_snoc hp]; exact k2, hJ.lb.cong (by omega) (fun j hj => hat _ (by omega)), hK, by rw [hh1]; dsimp only; omega, by rw [hh1]; exact hJ.nt, by rw [packL_snoc hp, hal]; omega, by rw [packL_snoc hp]; exact hrr⟩
end Go.Proofs.YtgmghkakiocmjaaDoor
namespace Go.Proofs.YtgmghkakiocmjaaDoor
open Go Go.RowKit
set_option linter.unusedVariables false
set_option linter.unusedSimpArgs false
theorem PP.Ok.ch0 {w w' : World} {p : PP} (h : p.Ok w) (hC : Ch [] w w') : p.Ok w' := ⟨h.s.ch0 hC, h.l, h.c, h.m, h.r, h.k, h.x⟩
end Go.Proofs.YtgmghkakiocmjaaDoor
namespace Go.Proofs.YtgmghkakiocmjaaDoor
open Go Go.RowKit
set_option linter.unusedVariables false
set_option linter.unusedSimpArgs false
theorem leb_len : ∀ (n x : Nat), x < 128 ^ (n + 1) → (leb x).length ≤ n + 1
  | n, x, h => by
    by_cases h1 : x < 128
    · rw [leb_small h1]; simp
    · rw [leb_big h1]
      rcases n with _ | n
      · simp at h; omega
      · have := leb_len n (x / 128) (by rw [Nat.div_lt_iff_lt_mul (by omega)]; rw [Nat.pow_succ] at h; exact h)
        rw [List.length_cons]; omega
theorem leb_len10 {x : Nat} (h : x < 18446744073709551616) : (leb x).length ≤ 10 := leb_len 9 x (Nat.lt_of_lt_of_le h (by decide))
set_option maxRecDepth 100000 in
set_option maxHeartbeats 4000000 in
theorem rnum_c (x : Nat) (hx : x < 18446744073709551616) (w : World) : CA Tryd.prog 65 [.int .u64 (x : Int)] w (RLe (Value.int .u8) 5 (fun zs => zs = leb x) w) := by
  have hl10 := leb_len10 hx
  refine enter (L := []) (X := []) Tryd.func65 rfl Tryd.ntmps65 rfl rfl (Has.nil _) ?_
  repeat (first | refine c_seq ?_ | (refine c_region (id := 0) ?_; refine sq qa ?_; refine l_nil ?_) | (refine c_region (id := 1) ?_; refine sq qa ?_; refine l_nil ?_) | refine n_then ?_ | refine c_block ?_ | refine c_skip ?_ | refine n_block ?_ | refine c_exit ?_ | refine n_then_exit ?_ | refine n_block_eq ?_ | refine n_block_ne rfl ?_ | refine c_ret ?_ | refine n_then_ret ?_ | refine n_block_ret ?_ | refine c_cond_t rfl ?_ | refine c_cond_f rfl ?_ | refine r_succ ?_ )
  refine add_nil 5 1 ?_
  refine c_loop (γ := Nat × List Int × Option Addr × Nat × Nat) (fun z => [(3, .slice z.2.2.1 z.2.1.length z.2.2.2.1), (0, .int .u64 (z.1 : Int))]) (fun z => z.2.2.2.2) (fun z => [.sl z.2.2.1 z.2.2.2.1 5 1 (z.2.1.map (Value.int .u8))]) (fun z => w.heap.size ≤ z.2.2.2.2 ∧ z.2.1 ++ leb z.1 = leb x ∧ OS [] w.heap.size z.2.2.1 z.2.2.2.1 z.2.1.length ∧ z.1 < 18446744073709551616) (fun z => z.1) ⟨x, [], none, 0, w.heap.size⟩ ⟨Nat.le_refl _, rfl, OS.nil _ _, hx⟩ ⟨rfl, rfl, trivial⟩ rfl (by (repeat (first | exact List.nil_sublist _ | exact List.Sublist.slnil | apply List.Sublist.cons_cons | exact List.Sublist.refl _ | apply List.Sublist.cons))) ?_
  rintro ⟨q, acc, b, cp, mm⟩ ⟨hm0, he, ho, hq⟩
  dsimp only at hm0 he ho hq ⊢
  have hal := congrArg List.length he
  rw [List.length_append] at hal
  by_cases h1 : q < 128
  · rw [leb_small h1] at he
    repeat (first | refine c_seq ?_ | (refine c_region (id := 2) ?_; refine sq qm ?_; refine sq (by exact Qt.cast (v' := .int .u64 ((q / 128 : Nat) : Int)) (congrArg (Value.int .u64) (by omega)) (q_quo rfl rfl (by omega) (by omega) (by simp only [IntKind.wrap_u64]; omega))) ?_; refine sq (by first | exact dgtrt | exact dgtrf) ?_; refine l_nil ?_) | refine n_then ?_ | refine c_block ?_ | refine c_skip ?_ | refine n_block ?_ | refine c_exit ?_ | refine n_then_exit ?_ | refine n_block_eq ?_ | refine n_block_ne rfl ?_ | refine c_ret ?_ | refine n_then_ret ?_ | refine n_block_ret ?_ | refine c_cond_t rfl ?_ | refine c_cond_f rfl ?_ | refine r_succ ?_ )
    repeat (first | refine c_seq ?_ | (refine c_region (id := 5) ?_; refine sq qm ?_; refine sq qm ?_; refine sq (by exact Qt.cast (v' := .int .u8 ((q : Nat) : Int)) (congrArg (Value.int .u8) (by omega)) (q_conv8 rfl)) ?_; refine se ?_; refine ebs ?_; refine se ?_; refine e_appM (Value.int .u8) acc ((q : Nat) : Int) rfl rfl rfl (by (repeat (first | exact Rm.here | apply Rm.there))) (by (repeat (first | exact List.Mem.head _ | apply List.Mem.tail))) rfl ho (by rfl) (by omega) (by omega) ?_; intro b2 cap2 m2 ho2 hm2; refine sq qa ?_; refine l_nil ?_) | refine n_then ?_ | refine c_block ?_ | refine c_skip ?_ | refine n_block ?_ | refine c_exit ?_ | refine n_then_exit ?_ | refine n_block_eq ?_ | refine n_block_ne rfl ?_ | refine c_ret ?_ | refine n_then_ret ?_ | refine n_block_ret ?_ | refine c_cond_t rfl ?_ | refine c_cond_f rfl ?_ | refine r_succ ?_ )
    have hl2 : acc.length + 1 = (leb x).length := by rw [← he]; simp
    rw [he]
    rw [hl2] at ho2 ⊢
    (first | apply r_ret (b2, cap2, leb x) | apply r_end (b2, cap2, leb x)); exact rfl; exact rfl; exact (.tmp rfl .nil); exact rfl; exact (by exact (by (repeat (first | exact List.nil_sublist _ | exact List.Sublist.slnil | apply List.Sublist.cons_cons | exact List.Sublist.refl _ | apply List.Sublist.cons)))); exact (new_sl ho2.newc new_nil); exact ⟨by have h9 := ho2.ret; exact h9, rfl⟩
  · rw [leb_big h1] at he
    repeat (first | refine c_seq ?_ | (refine c_region (id := 2) ?_; refine sq qm ?_; refine sq (by exact Qt.cast (v' := .int .u64 ((q / 128 : Nat) : Int)) (congrArg (Value.int .u64) (by omega)) (q_quo rfl rfl (by omega) (by omega) (by simp only [IntKind.wrap_u64]; omega))) ?_; refine sq (by first | exact dgtrt | exact dgtrf) ?_; refine l_nil ?_) | refine n_then ?_ | refine c_block ?_ | refine c_skip ?_ | refine n_block ?_ | refine c_exit ?_ | refine n_then_exit ?_ | refine n_block_eq ?_ | refine n_block_ne rfl ?_ | refine c_ret ?_ | refine n_then_ret ?_ | refine n_block_ret ?_ | refine c_cond_t rfl ?_ | refine c_cond_f rfl ?_ | refine r_succ ?_ )
    repeat (first | refine c_seq ?_ | (refine c_region (id := 3) ?_; refine sq qm ?_; refine sq qm ?_; refine sq (by exact Qt.cast (v' := .int .u64 ((q % 128 : Nat) : Int)) (congrArg (Value.int .u64) (by omega)) (q_rem rfl rfl (by omega) (by omega))) ?_; refine sq (by exact Qt.cast (v' := .int .u64 ((q % 128 + 128 : Nat) : Int)) (congrArg (Value.int .u64) (by omega)) (q_addU rfl rfl)) ?_; refine sq (by exact Qt.cast (v' := .int .u8 ((q % 128 + 128 : Nat) : Int)) (congrArg (Value.int .u8) (by omega)) (q_conv8 rfl)) ?_; refine se ?_; refine ebs ?_; refine se ?_; refine e_appM (Value.int .u8) acc ((q % 128 + 128 : Nat) : Int) rfl rfl rfl (by (repeat (first | exact Rm.here | apply Rm.there))) (by (repeat (first | exact List.Mem.head _ | apply List.Mem.tail))) rfl ho (by rfl) (by omega) (by omega) ?_; intro b2 cap2 m2 ho2 hm2; refine sq qa ?_; refine l_nil ?_) | (refine c_region (id := 4) ?_; refine sq qm ?_; refine sq (by exact Qt.cast (v' := .int .u64 ((q / 128 : Nat) : Int)) (congrArg (Value.int .u64) (by omega)) (q_quo rfl rfl (by omega) (by omega) (by simp only [IntKind.wrap_u64]; omega))) ?_; refine sq qa ?_; refine l_nil ?_) | refine n_then ?_ | refine c_block ?_ | refine c_skip ?_ | refine n_block ?_ | refine c_exit ?_ | refine n_then_exit ?_ | refine n_block_eq ?_ | refine n_block_ne rfl ?_ | refine c_ret ?_ | refine n_then_ret ?_ | refine n_block_ret ?_ | refine c_cond_t rfl ?_ | refine c_cond_f rfl ?_ | refine r_succ ?_ )
    refine c_round ⟨q / 128, acc ++ [((q % 128 + 128 : Nat) : Int)], b2, cap2, m2⟩ ⟨by dsimp only; omega, by dsimp only; rw [List.append_assoc]; exact he, by dsimp only; rw [List.length_append]; exact ho2, by dsimp only; omega⟩ (by dsimp only; omega) ⟨by simp; rfl, rfl, trivial⟩ (by rfl) (by exact (by (repeat (first | exact List.nil_sublist _ | exact List.Sublist.slnil | apply List.Sublist.cons_cons | exact List.Sublist.refl _ | apply List.Sublist.cons))))
theorem take_neq {xs : List Int} {i c acc v : Nat} (hb : ∀ y ∈ xs, 0 ≤ y ∧ y ≤ 255) (h : numX xs = if c = 0 ∧ 0 < i then (0, 0) else if i = 9 ∧ 1 < c then (0, 0) else (acc + c * 128 ^ i, i + 1)) (hv : acc + c * 128 ^ i < 18446744073709551616 → v = acc + c * 128 ^ i) (hne : leb v ≠ xs.take (i + 1)) : numX xs = (0, 0) := by
  split at h
  · exact h
  · split at h
    · exact h
    · obtain ⟨h1, h2, h3⟩ := numX_spec hb h (by omega)
      rw [← hv h3] at h1
      exact absurd h1 hne
theorem take_eq {xs : List Int} {i v : Nat} (hi : i < xs.length) (hv : v < 18446744073709551616) (he : leb v = xs.take (i + 1)) : numX xs = (v, i + 1) := by
  have h1 := numX_leb (xs.drop (i + 1)) hv
  rw [he, List.take_append_drop, List.length_take] at h1
  rw [h1]; congr 1; omega
set_option maxRecDepth 100000 in
set_option maxHeartbeats 4000000 in
theorem rtake_c (a : Option Addr) (len cap : Nat) (xs : List Int) (hxl : xs.length = len) (hxb : ∀ x ∈ xs, 0 ≤ x ∧ x ≤ 255) (hcap : len ≤ cap) (hl9 : len ≤ 100000) (w : World) (hs : SlE (Value.int .u8) w a xs) : CA Tryd.prog 57 [.slice a len cap] w (RV (.tuple #[.int .u64 ((numX xs).1 : Int), .int .i64 ((numX xs).2 : Int)]) w) := by
  have h99 : (128 : Nat) ^ 9 = 9223372036854775808 := by decide
  refine enter (L := []) (X := []) Tryd.func57 rfl Tryd.ntmps57 rfl rfl (Has.nil _) ?_
  repeat (first | refine c_seq ?_ | (refine c_region (id := 0) ?_; refine sq qa ?_; refine sq qa ?_; refine l_nil ?_) | (refine c_region (id := 1) ?_; refine sq qa ?_; refine sq qa ?_; refine l_nil ?_) | (refine c_region (id := 2) ?_; refine sq qa ?_; refine l_nil ?_) | refine n_then ?_ | refine c_block ?_ | refine c_skip ?_ | refine n_block ?_ | refine c_exit ?_ | refine n_then_exit ?_ | refine n_block_eq ?_ | refine n_block_ne rfl ?_ | refine c_ret ?_ | refine n_then_ret ?_ | refine n_block_ret ?_ | refine c_cond_t rfl ?_ | refine c_cond_f rfl ?_ | refine r_succ ?_ )
  refine c_loop (γ := Nat × Nat × Nat × Nat) (fun z => [(6, .int .i64 (z.1 : Int)), (5, .int .u64 (z.2.2.1 : Int)), (4, .int .u64 (z.2.1 : Int)), (0, .slice a len cap)]) (fun z => z.2.2.2) (fun _ => []) (fun z => w.heap.size ≤ z.2.2.2 ∧ z.1 ≤ len ∧ z.2.1 < 18446744073709551616 ∧ z.2.2.1 < 18446744073709551616 ∧ ((z.1 ≤ 9 ∧ numX xs = numF (xs.drop z.1) z.1 z.2.1 ∧ z.2.1 < 128 ^ z.1 ∧ z.2.2.1 = 128 ^ z.1) ∨ (z.1 = 10 ∧ numX xs = (0, 0)))) (fun z => len - z.1) ⟨0, 0, 1, w.heap.size⟩ ⟨Nat.le_refl _, by simp, by simp, by simp, .inl ⟨by simp, rfl, by simp, rfl⟩⟩ ⟨rfl, rfl, rfl, rfl, trivial⟩ rfl (by (repeat (first | exact List.nil_sublist _ | exact List.Sublist.slnil | apply List.Sublist.cons_cons | exact List.Sublist.refl _ | apply List.Sublist.cons))) ?_
  rintro ⟨i, acc, sh, mm⟩ ⟨hm0, hi, hac, hsh, hor⟩
  dsimp only at hm0 hi hac hsh hor ⊢
  rcases hor with ⟨hi9, hnx, ha, hs2⟩ | ⟨hi10, hn0⟩
  · by_cases h1 : i < len
    · obtain ⟨g, o, rfl, hOk⟩ := hs.get (i := i) (by omega)
      obtain ⟨y, hye⟩ : ∃ y, y = xs.getD i 0 := ⟨_, rfl⟩
      have hyi : xs[i]? = some y := by rw [hye, List.getD_eq_getElem?_getD, List.getElem?_eq_getElem (by omega), Option.getD_some]
      have hy0 := hxb y (List.mem_of_getElem? hyi)
      obtain ⟨c, rfl⟩ : ∃ c : Nat, y = (c : Int) := ⟨y.toNat, by omega⟩
      have hc : c ≤ 255 := by omega
      have hz : nth (xs.map (Value.int .u8)) i = some (.int .u8 (c : Int)) := nth_map hyi
      have hst : numF (xs.drop i) i acc = if c < 128 then if c = 0 ∧ 0 < i then (0, 0) else if i = 9 ∧ 1 < c then (0, 0) else (acc + c * 128 ^ i, i + 1) else if i = 9 then (0, 0) else numF (xs.drop (i + 1)) (i + 1) (acc + c % 128 * 128 ^ i) := by
        rw [drop_get (by omega), ← hye]; simp only [numF, Int.toNat_natCast]
      rw [hst] at hnx
      obtain ⟨m, hmm⟩ : ∃ m, m = c % 128 * sh := ⟨_, rfl⟩
      obtain ⟨v, hv⟩ : ∃ v, v = (acc + m % 18446744073709551616) % 18446744073709551616 := ⟨_, rfl⟩
      obtain ⟨sh2, hsh2⟩ : ∃ q, q = sh * 128 % 18446744073709551616 := ⟨_, rfl⟩
      by_cases hlt : c < 128
      · rw [if_pos hlt] at hnx
        by_cases he : leb v = xs.take (i + 1)
        · have heq : ((strOfNums (leb v)).toList == (strOfNums (xs.take (i + 1))).toList) = true := by rw [he]; exact beq_self_eq_true _
          rw [take_eq (by omega) (by omega) he]
          repeat (first | refine c_seq ?_ | (refine c_region (id := 3) ?_; refine sq qm ?_; refine sq qm ?_; refine sq qls ?_; refine sq (by first | exact dlsst | exact dlssf) ?_; refine sq qm ?_; (first | refine sk ?_ | refine skv ?_ | (refine st_want rfl rfl ?_; refine sq qm ?_)); (first | refine sk ?_ | refine skv ?_ | (refine st_want rfl rfl ?_; refine sq (by first | exact dlsst | exact dlssf) ?_)); refine sq (by first | exact qpt | exact qpf) ?_; refine l_nil ?_) | (refine c_region (id := 5) ?_; refine sq qm ?_; refine sq qm ?_; refine sq qm ?_; refine sq (by exact q_indexAddr_sl (o' := o + i) rfl rfl (by omega) (by omega) (by omega)) ?_; refine sq ql ?_; refine sq (by exact Qt.cast (v' := .int .u8 ((c % 128 : Nat) : Int)) (congrArg (Value.int .u8) (by omega)) (q_rem rfl rfl (by omega) (by omega))) ?_; refine sq (by exact Qt.cast (v' := .int .u64 ((c % 128 : Nat) : Int)) (congrArg (Value.int .u64) (by omega)) (q_convU rfl)) ?_; refine sq qm ?_; refine sq (by exact Qt.cast (v' := .int .u64 ((m % 18446744073709551616 : Nat) : Int)) (congrArg (Value.int .u64) (by rw [hmm, Int.natCast_emod (c % 128 * sh), Int.natCast_mul]; rfl)) (q_mulU rfl rfl)) ?_; refine sq (by exact Qt.cast (v' := .int .u64 ((v : Nat) : Int)) (congrArg (Value.int .u64) (by omega)) (q_addU rfl rfl)) ?_; refine sq qa ?_; refine l_nil ?_) | (refine c_region (id := 6) ?_; refine sq qm ?_; refine sq (by exact Qt.cast (v' := .int .u64 ((sh2 : Nat) : Int)) (congrArg (Value.int .u64) (by omega)) (q_mulU rfl rfl)) ?_; refine sq qa ?_; refine l_nil ?_) | (refine c_region (id := 7) ?_; refine sq qm ?_; refine sq qm ?_; refine sq (by exact q_indexAddr_sl (o' := o + i) rfl rfl (by omega) (by omega) (by omega)) ?_; refine sq ql ?_; refine sq (by first | exact dlsst | exact dlssf) ?_; refine l_nil ?_) | (refine x_region (id := 8) none [(0, .n), (3, .n), (4, .n), (5, .n), (6, .n), (7, .q), (1, .e), (2, .e), (8, .n)] _ mixed (by kernel_rfl) (List.Sublist.refl _) ?_; refine xn rfl qm ?_; refine xn rfl qm ?_; refine xn rfl qm ?_; refine xn rfl (by exact Qt.cast (v' := .int .i64 ((i + 1 : Nat) : Int)) (congrArg (Value.int .i64) (by omega)) (q_add64 rfl rfl ⟨by omega, by omega⟩ rfl)) ?_; refine xn rfl (by exact q_slice (b' := (if cap = 0 then some ⟨g, o, none⟩ else (some ⟨g, o, none⟩ : Option Addr).map (·.add (0 * 1)))) (len' := i + 1) (cap' := cap) rfl rfl rfl (by omega) (by omega) (by omega) (by omega) (by rfl) (by omega) (by omega)) ?_; refine xq rfl (by exact q_conv_bytes (xs := xs.take (i + 1)) rfl ((pre_sl hs).vw) (by rw [List.length_take]; omega)) ?_; refine x_e rfl ?_; refine e_callL rfl rfl (by kernel_rfl) rfl (fun w hC hm hL => by exact rnum_c v (by omega) w) ?_; intro b1 cap1 zs m1 hz1 ho1 hm1; replace hz1 := hz1.symm; subst hz1; refine xk ?_; refine x_e rfl ?_; refine e_q (by exact q_conv_bytes (xs := leb v) rfl (Vw.own (ho1.obv (by simp)) (by (repeat (first | exact List.Mem.head _ | apply List.Mem.tail)))) rfl) rfl ?_; refine xk ?_; refine xn rfl (by exact Qt.cast (v' := .bool true) (congrArg Value.bool heq) (q_eql_str rfl rfl)) ?_; refine x_nil ?_) | refine n_then ?_ | refine c_block ?_ | refine c_skip ?_ | refine n_block ?_ | refine c_exit ?_ | refine n_then_exit ?_ | refine n_block_eq ?_ | refine n_block_ne rfl ?_ | refine c_ret ?_ | refine n_then_ret ?_ | refine n_block_ret ?_ | refine c_cond_t rfl ?_ | refine c_cond_f rfl ?_ | refine r_succ ?_ )
          repeat (first | refine c_seq ?_ | (refine c_region (id := 9) ?_; refine sq qm ?_; refine sq qm ?_; refine sq (by exact Qt.cast (v' := .int .i64 ((i + 1 : Nat) : Int)) (congrArg (Value.int .i64) (by omega)) (q_add64 rfl rfl ⟨by omega, by omega⟩ rfl)) ?_; refine sq qa ?_; refine sq qa ?_; refine l_nil ?_) | refine n_then ?_ | refine c_block ?_ | refine c_skip ?_ | refine n_block ?_ | refine c_exit ?_ | refine n_then_exit ?_ | refine n_block_eq ?_ | refine n_block_ne rfl ?_ | refine c_ret ?_ | refine n_then_ret ?_ | refine n_block_ret ?_ | refine c_cond_t rfl ?_ | refine c_cond_f rfl ?_ | refine r_succ ?_ )
          (first | apply r_ret () | apply r_end ()); exact rfl; exact rfl; exact (.tmp rfl (.tmp rfl .nil)); exact rfl; exact (List.nil_sublist _); exact new_nil; exact trivial
        · have heq : ((strOfNums (leb v)).toList == (strOfNums (xs.take (i + 1))).toList) = false := by rw [strOfNums_beq (leb_bd v) (fun x hx => hxb x (List.mem_of_mem_take hx))]; exact beq_eq_false_iff_ne.2 he
          rw [take_neq hxb hnx (by have e : m = c * 128 ^ i := by rw [hmm, hs2, Nat.mod_eq_of_lt hlt]
                                   intro h5; rw [← e] at h5 ⊢; omega) he]
          repeat (first | refine c_seq ?_ | (refine c_region (id := 3) ?_; refine sq qm ?_; refine sq qm ?_; refine sq qls ?_; refine sq (by first | exact dlsst | exact dlssf) ?_; refine sq qm ?_; (first | refine sk ?_ | refine skv ?_ | (refine st_want rfl rfl ?_; refine sq qm ?_)); (first | refine sk ?_ | refine skv ?_ | (refine st_want rfl rfl ?_; refine sq (by first | exact dlsst | exact dlssf) ?_)); refine sq (by first | exact qpt | exact qpf) ?_; refine l_nil ?_) | (refine c_region (id := 5) ?_; refine sq qm ?_; refine sq qm ?_; refine sq qm ?_; refine sq (by exact q_indexAddr_sl (o' := o + i) rfl rfl (by omega) (by omega) (by omega)) ?_; refine sq ql ?_; refine sq (by exact Qt.cast (v' := .int .u8 ((c % 128 : Nat) : Int)) (congrArg (Value.int .u8) (by omega)) (q_rem rfl rfl (by omega) (by omega))) ?_; refine sq (by exact Qt.cast (v' := .int .u64 ((c % 128 : Nat) : Int)) (congrArg (Value.int .u64) (by omega)) (q_convU rfl)) ?_; refine sq qm ?_; refine sq (by exact Qt.cast (v' := .int .u64 ((m % 18446744073709551616 : Nat) : Int)) (congrArg (Value.int .u64) (by rw [hmm, Int.natCast_emod (c % 128 * sh), Int.natCast_mul]; rfl)) (q_mulU rfl rfl)) ?_; refine sq (by exact Qt.cast (v' := .int .u64 ((v : Nat) : Int)) (congrArg (Value.int .u64) (by omega)) (q_addU rfl rfl)) ?_; refine sq qa ?_; refine l_nil ?_) | (refine c_region (id := 6) ?_; refine sq qm ?_; refine sq (by exact Qt.cast (v' := .int .u64 ((sh2 : Nat) : Int)) (congrArg (Value.int .u64) (by omega)) (q_mulU rfl rfl)) ?_; refine sq qa ?_; refine l_nil ?_) | (refine c_region (id := 7) ?_; refine sq qm ?_; refine sq qm ?_; refine sq (by exact q_indexAddr_sl (o' := o + i) rfl rfl (by omega) (by omega) (by omega)) ?_; refine sq ql ?_; refine sq (by first | exact dlsst | exact dlssf) ?_; refine l_nil ?_) | (refine x_region (id := 8) none [(0, .n), (3, .n), (4, .n), (5, .n), (6, .n), (7, .q), (1, .e), (2, .e), (8, .n)] _ mixed (by kernel_rfl) (List.Sublist.refl _) ?_; refine xn rfl qm ?_; refine xn rfl qm ?_; refine xn rfl qm ?_; refine xn rfl (by exact Qt.cast (v' := .int .i64 ((i + 1 : Nat) : Int)) (congrArg (Value.int .i64) (by omega)) (q_add64 rfl rfl ⟨by omega, by omega⟩ rfl)) ?_; refine xn rfl (by exact q_slice (b' := (if cap = 0 then some ⟨g, o, none⟩ else (some ⟨g, o, none⟩ : Option Addr).map (·.add (0 * 1)))) (len' := i + 1) (cap' := cap) rfl rfl rfl (by omega) (by omega) (by omega) (by omega) (by rfl) (by omega) (by omega)) ?_; refine xq rfl (by exact q_conv_bytes (xs := xs.take (i + 1)) rfl ((pre_sl hs).vw) (by rw [List.length_take]; omega)) ?_; refine x_e rfl ?_; refine e_callL rfl rfl (by kernel_rfl) rfl (fun w hC hm hL => by exact rnum_c v (by omega) w) ?_; intro b1 cap1 zs m1 hz1 ho1 hm1; replace hz1 := hz1.symm; subst hz1; refine xk ?_; refine x_e rfl ?_; refine e_q (by exact q_conv_bytes (xs := leb v) rfl (Vw.own (ho1.obv (by simp)) (by (repeat (first | exact List.Mem.head _ | apply List.Mem.tail)))) rfl) rfl ?_; refine xk ?_; refine xn rfl (by exact Qt.cast (v' := .bool false) (congrArg Value.bool heq) (q_eql_str rfl rfl)) ?_; refine x_nil ?_) | refine n_then ?_ | refine c_block ?_ | refine c_skip ?_ | refine n_block ?_ | refine c_exit ?_ | refine n_then_exit ?_ | refine n_block_eq ?_ | refine n_block_ne rfl ?_ | refine c_ret ?_ | refine n_then_ret ?_ | refine n_block_ret ?_ | refine c_cond_t rfl ?_ | refine c_cond_f rfl ?_ | refine r_succ ?_ )
          repeat (first | refine c_seq ?_ | (refine c_region (id := 10) ?_; refine sq qa ?_; refine sq qa ?_; refine l_nil ?_) | refine n_then ?_ | refine c_block ?_ | refine c_skip ?_ | refine n_block ?_ | refine c_exit ?_ | refine n_then_exit ?_ | refine n_block_eq ?_ | refine n_block_ne rfl ?_ | refine c_ret ?_ | refine n_then_ret ?_ | refine n_block_ret ?_ | refine c_cond_t rfl ?_ | refine c_cond_f rfl ?_ | refine r_succ ?_ )
          (first | apply r_ret () | apply r_end ()); exact rfl; exact rfl; exact (.tmp rfl (.tmp rfl .nil)); exact rfl; exact (List.nil_sublist _); exact new_nil; exact trivial
      · rw [if_neg hlt] at hnx
        have hnext : (i + 1 ≤ 9 ∧ numX xs = numF (xs.drop (i + 1)) (i + 1) v ∧ v < 128 ^ (i + 1) ∧ sh2 = 128 ^ (i + 1)) ∨ (i + 1 = 10 ∧ numX xs = (0, 0)) := by
          by_cases h9 : i = 9
          · right; rw [if_pos h9] at hnx; exact ⟨by omega, hnx⟩
          · left
            rw [if_neg h9] at hnx
            have hpl := pow_lt_step (n := i) ha (show c % 128 < 128 by omega)
            have hp9 : 128 ^ (i + 1) ≤ 128 ^ 9 := Nat.pow_le_pow_right (by omega) (by omega)
            have e : m = c % 128 * 128 ^ i := by rw [hmm, hs2]
            rw [← e] at hpl hnx
            have ev : v = acc + m := by omega
            have es : sh2 = 128 ^ (i + 1) := by rw [Nat.pow_succ, ← hs2] at hp9 ⊢; omega
            exact ⟨by omega, by rw [ev]; exact hnx, by rw [ev]; exact hpl, es⟩
        repeat (first | refine c_seq ?_ | (refine c_region (id := 3) ?_; refine sq qm ?_; refine sq qm ?_; refine sq qls ?_; refine sq (by first | exact dlsst | exact dlssf) ?_; refine sq qm ?_; (first | refine sk ?_ | refine skv ?_ | (refine st_want rfl rfl ?_; refine sq qm ?_)); (first | refine sk ?_ | refine skv ?_ | (refine st_want rfl rfl ?_; refine sq (by first | exact dlsst | exact dlssf) ?_)); refine sq (by first | exact qpt | exact qpf) ?_; refine l_nil ?_) | (refine c_region (id := 4) ?_; refine sq qm ?_; refine sq (by exact Qt.cast (v' := .int .i64 ((i + 1 : Nat) : Int)) (congrArg (Value.int .i64) (by omega)) (q_add64 rfl rfl ⟨by omega, by omega⟩ rfl)) ?_; refine sq qa ?_; refine l_nil ?_) | (refine c_region (id := 5) ?_; refine sq qm ?_; refine sq qm ?_; refine sq qm ?_; refine sq (by exact q_indexAddr_sl (o' := o + i) rfl rfl (by omega) (by omega) (by omega)) ?_; refine sq ql ?_; refine sq (by exact Qt.cast (v' := .int .u8 ((c % 128 : Nat) : Int)) (congrArg (Value.int .u8) (by omega)) (q_rem rfl rfl (by omega) (by omega))) ?_; refine sq (by exact Qt.cast (v' := .int .u64 ((c % 128 : Nat) : Int)) (congrArg (Value.int .u64) (by omega)) (q_convU rfl)) ?_; refine sq qm ?_; refine sq (by exact Qt.cast (v' := .int .u64 ((m % 18446744073709551616 : Nat) : Int)) (congrArg (Value.int .u64) (by rw [hmm, Int.natCast_emod (c % 128 * sh), Int.natCast_mul]; rfl)) (q_mulU rfl rfl)) ?_; refine sq (by exact Qt.cast (v' := .int .u64 ((v : Nat) : Int)) (congrArg (Value.int .u64) (by omega)) (q_addU rfl rfl)) ?_; refine sq qa ?_; refine l_nil ?_) | (refine c_region (id := 6) ?_; refine sq qm ?_; refine sq (by exact Qt.cast (v' := .int .u64 ((sh2 : Nat) : Int)) (congrArg (Value.int .u64) (by omega)) (q_mulU rfl rfl)) ?_; refine sq qa ?_; refine l_nil ?_) | (refine c_region (id := 7) ?_; refine sq qm ?_; refine sq qm ?_; refine sq (by exact q_indexAddr_sl (o' := o + i) rfl rfl (by omega) (by omega) (by omega)) ?_; refine sq ql ?_; refine sq (by first | exact dlsst | exact dlssf) ?_; refine l_nil ?_) | refine n_then ?_ | refine c_block ?_ | refine c_skip ?_ | refine n_block ?_ | refine c_exit ?_ | refine n_then_exit ?_ | refine n_block_eq ?_ | refine n_block_ne rfl ?_ | refine c_ret ?_ | refine n_then_ret ?_ | refine n_block_ret ?_ | refine c_cond_t rfl ?_ | refine c_cond_f rfl ?_ | refine r_succ ?_ )
        refine c_round ⟨i + 1, v, sh2, mm⟩ ⟨by dsimp only; omega, by dsimp only; omega, by dsimp only; omega, by dsimp only; omega, hnext⟩ (by dsimp only; omega) ⟨rfl, rfl, rfl, rfl, trivial⟩ (by rfl) (by (repeat (first | exact List.nil_sublist _ | exact List.Sublist.slnil | apply List.Sublist.cons_cons | exact List.Sublist.refl _ | apply List.Sublist.cons)))
    · obtain rfl : i = len := by omega
      have hn0 : numX xs = (0, 0) := by rw [hnx, List.drop_of_length_le (by omega)]; rfl
      rw [hn0]
      repeat (first | refine c_seq ?_ | (refine c_region (id := 3) ?_; refine sq qm ?_; refine sq qm ?_; refine sq qls ?_; refine sq (by first | exact dlsst | exact dlssf) ?_; refine sq qm ?_; (first | refine sk ?_ | refine skv ?_ | (refine st_want rfl rfl ?_; refine sq qm ?_)); (first | refine sk ?_ | refine skv ?_ | (refine st_want rfl rfl ?_; refine sq (by first | exact dlsst | exact dlssf) ?_)); refine sq (by first | exact qpt | exact qpf) ?_; refine l_nil ?_) | (refine c_region (id := 11) ?_; refine sq qa ?_; refine sq qa ?_; refine l_nil ?_) | refine n_then ?_ | refine c_block ?_ | refine c_skip ?_ | refine n_block ?_ | refine c_exit ?_ | refine n_then_exit ?_ | refine n_block_eq ?_ | refine n_block_ne rfl ?_ | refine c_ret ?_ | refine n_then_ret ?_ | refine n_block_ret ?_ | refine c_cond_t rfl ?_ | refine c_cond_f rfl ?_ | refine r_succ ?_ )
      (first | apply r_ret () | apply r_end ()); exact rfl; exact rfl; exact (.tmp rfl (.tmp rfl .nil)); exact rfl; exact (List.nil_sublist _); exact new_nil; exact trivial
  · rw [hn0]
    by_cases h1 : i < len
    · repeat (first | refine c_seq ?_ | (refine c_region (id := 3) ?_; refine sq qm ?_; refine sq qm ?_; refine sq qls ?_; refine sq (by first | exact dlsst | exact dlssf) ?_; refine sq qm ?_; (first | refine sk ?_ | refine skv ?_ | (refine st_want rfl rfl ?_; refine sq qm ?_)); (first | refine sk ?_ | refine skv ?_ | (refine st_want rfl rfl ?_; refine sq (by first | exact dlsst | exact dlssf) ?_)); refine sq (by first | exact qpt | exact qpf) ?_; refine l_nil ?_) | (refine c_region (id := 11) ?_; refine sq qa ?_; refine sq qa ?_; refine l_nil ?_) | refine n_then ?_ | refine c_block ?_ | refine c_skip ?_ | refine n_block ?_ | refine c_exit ?_ | refine n_then_exit ?_ | refine n_block_eq ?_ | refine n_block_ne rfl ?_ | refine c_ret ?_ | refine n_then_ret ?_ | refine n_block_ret ?_ | refine c_cond_t rfl ?_ | refine c_cond_f rfl ?_ | refine r_succ ?_ )
      (first | apply r_ret () | apply r_end ()); exact rfl; exact rfl; exact (.tmp rfl (.tmp rfl .nil)); exact rfl; exact (List.nil_sublist _); exact new_nil; exact trivial
    · repeat (first | refine c_seq ?_ | (refine c_region (id := 3) ?_; refine sq qm ?_; refine sq qm ?_; refine sq qls ?_; refine sq (by first | exact dlsst | exact dlssf) ?_; refine sq qm ?_; (first | refine sk ?_ | refine skv ?_ | (refine st_want rfl rfl ?_; refine sq qm ?_)); (first | refine sk ?_ | refine skv ?_ | (refine st_want rfl rfl ?_; refine sq (by first | exact dlsst | exact dlssf) ?_)); refine sq (by first | exact qpt | exact qpf) ?_; refine l_nil ?_) | (refine c_region (id := 11) ?_; refine sq qa ?_; refine sq qa ?_; refine l_nil ?_) | refine n_then ?_ | refine c_block ?_ | refine c_skip ?_ | refine n_block ?_ | refine c_exit ?_ | refine n_then_exit ?_ | refine n_block_eq ?_ | refine n_block_ne rfl ?_ | refine c_ret ?_ | refine n_then_ret ?_ | refine n_block_ret ?_ | refine c_cond_t rfl ?_ | refine c_cond_f rfl ?_ | refine r_succ ?_ )
      (first | apply r_ret () | apply r_end ()); exact rfl; exact rfl; exact (.tmp rfl (.tmp rfl .nil)); exact rfl; exact (List.nil_sublist _); exact new_nil; exact trivial
end Go.Proofs.YtgmghkakiocmjaaDoor
namespace Go.Proofs.YtgmghkakiocmjaaDoor
open Go Go.RowKit
set_option linter.unusedVariables false
set_option linter.unusedSimpArgs false
theorem SlE.tk {w : World} {a : Option Addr} {ys : List Int} (hs : SlE (Value.int .u8) w a ys) (k : Nat) : SlE (Value.int .u8) w a (ys.take k) :=
  ⟨hs.h.imp (fun h => by rw [h]; exact List.take_nil) (fun ⟨g, o, e, hO⟩ => ⟨g, o, e, by rw [List.map_take]; exact hO.tak k⟩)⟩
theorem cut_sl {w : World} {a : Option Addr} {ys : List Int} {n cap : Nat} (hs : SlE (Value.int .u8) w a ys) (hn : ys.length ≤ cap) : SlE (Value.int .u8) w (if cap = n then a else a.map (·.add (n * 1))) (ys.drop n) := by
  by_cases hc : cap = n
  · exact ⟨.inl (List.drop_of_length_le (by omega))⟩
  · rw [if_neg hc]
    refine ⟨hs.h.imp (fun h => by rw [h]; exact List.drop_nil) (fun ⟨g, o, e, hO⟩ => ⟨g, o + n, by rw [e]; simp [Addr.add_mid], ?_⟩)⟩
    have := hO.drp n
    rw [← List.map_drop] at this
    exact this
theorem toI_pos {x : Nat} (h : 0 ≤ toI x) (hx : x < 18446744073709551616) : toI x = x := by unfold toI at h ⊢; split at h <;> split <;> omega
set_option maxRecDepth 100000 in
set_option maxHeartbeats 4000000 in
theorem got_c (a : Option Addr) (len cap : Nat) (xs : List Int) (hxl : xs.length = len) (hxb : ∀ x ∈ xs, 0 ≤ x ∧ x ≤ 255) (hcap : len ≤ cap) (hl9 : len ≤ 100000) (w : World) (hs : SlE (Value.int .u8) w a xs) (kd x : Nat) (pa : Option Addr) (pl pc : Nat) (hkd : kd < 256) (hx64 : x < 18446744073709551616) (v n : Nat) (tx : List Int) (hg : gotX xs kd x = some (v, tx, n)) :
    CA Tryd.prog 39 [.slice a len cap, .agg #[.int .u8 (kd : Int), .int .u64 (x : Int), .slice pa pl pc]] w (Ret (fun z : Option Addr × Nat => .tuple #[.int .u64 (v : Int), .slice z.1 tx.length z.2, .int .i64 (n : Int)]) [] (fun _ => []) (fun z => n ≤ len ∧ ∀ w', SlE (Value.int .u8) w' a xs → SlE (Value.int .u8) w' z.1 tx) w) := by
  obtain ⟨hb, hhb⟩ : ∃ q, q = w.heap.size := ⟨_, rfl⟩
  unfold gotX at hg
  by_cases k0 : kd % 4 = 0
  · rw [if_pos k0] at hg
    obtain ⟨x1, n1, hnx⟩ : ∃ x1 n1, numX xs = (x1, n1) := ⟨_, _, rfl⟩
    rw [hnx] at hg
    split at hg
    · cases hg
    rename_i hno
    simp only [not_or, Nat.not_lt] at hno
    obtain ⟨hn, hx1⟩ := hno
    simp only [Option.some.injEq, Prod.mk.injEq] at hg
    obtain ⟨rfl, rfl, rfl⟩ := hg
    have hsp := numX_spec hxb hnx hn
    refine enter (L := []) (X := []) Tryd.func39 rfl Tryd.ntmps39 rfl rfl (Has.nil _) ?_
    rw [← hhb]
    repeat (first | refine c_seq ?_ | (refine c_region (id := 0) ?_; refine se ?_; refine eb ?_; refine sq qa ?_; refine sq qa ?_; refine sq qa ?_; refine l_nil ?_) | (refine c_region (id := 1) ?_; refine sq qf ?_; refine sq ql ?_; refine sq qrem ?_; refine l_nil ?_) | (refine c_region (id := 2) ?_; refine sq (by first | exact deqlt | exact deqlf) ?_; refine sq qa ?_; refine l_nil ?_) | (refine c_region (id := 3) ?_; refine sq qm ?_; refine se ?_; refine ecp rfl rfl (fun w hC hm hL => by have h9 := rtake_c a len cap xs hxl hxb hcap hl9 w (hs.ch0 hC); rw [hnx] at h9; exact h9) ?_; intro m' hm'; refine sq qm ?_; refine sq qe ?_; refine sq qe ?_; refine sq qa ?_; refine sq qa ?_; refine l_nil ?_) | (refine c_region (id := 4) ?_; refine sq qm ?_; refine sq (by first | exact deqlt | exact deqlf) ?_; refine sq qm ?_; (first | refine sk ?_ | refine skv ?_ | (refine st_want rfl rfl ?_; refine sq qm ?_)); (first | refine sk ?_ | refine skv ?_ | (refine st_want rfl rfl ?_; refine sq qf ?_)); (first | refine sk ?_ | refine skv ?_ | (refine st_want rfl rfl ?_; refine sq ql ?_)); (first | refine sk ?_ | refine skv ?_ | (refine st_want rfl rfl ?_; refine sq (by first | exact dgtrt | exact dgtrf) ?_)); refine sq (by first | exact qpt | exact qpf) ?_; refine l_nil ?_) | (refine c_region (id := 6) ?_; refine sq qm ?_; refine sq qm ?_; refine sq qa ?_; refine sq qa ?_; refine sq qa ?_; refine l_nil ?_) | refine n_then ?_ | refine c_block ?_ | refine c_skip ?_ | refine n_block ?_ | refine c_exit ?_ | refine n_then_exit ?_ | refine n_block_eq ?_ | refine n_block_ne rfl ?_ | refine c_ret ?_ | refine n_then_ret ?_ | refine n_block_ret ?_ | refine c_cond_t rfl ?_ | refine c_cond_f rfl ?_ | refine r_succ ?_ )
    (first | apply r_ret (none, 0) | apply r_end (none, 0)); exact rfl; exact rfl; exact (.tmp rfl (.tmp rfl (.tmp rfl .nil))); exact rfl; exact (List.nil_sublist _); exact new_nil; exact ⟨by omega, fun _ _ => ⟨.inl rfl⟩⟩
  · rw [if_neg k0] at hg
    by_cases k1 : kd % 4 = 1
    · rw [if_pos k1] at hg
      obtain ⟨x1, n1, hnx⟩ : ∃ x1 n1, numX xs = (x1, n1) := ⟨_, _, rfl⟩
      rw [hnx] at hg
      split at hg
      · cases hg
      rename_i hno
      simp only [not_or, Int.not_lt, Nat.not_lt] at hno
      obtain ⟨hn, h2, h3, h4, h5⟩ := hno
      have h6 := toI_pos h2 hx64
      rw [hxl] at h5
      simp only [Option.some.injEq, Prod.mk.injEq] at hg
      obtain ⟨rfl, rfl, rfl⟩ := hg
      have etl : ((xs.drop n1).take x1).length = x1 := by simp; omega
      rw [etl]
      refine enter (L := []) (X := []) Tryd.func39 rfl Tryd.ntmps39 rfl rfl (Has.nil _) ?_
      rw [← hhb]
      repeat (first | refine c_seq ?_ | (refine c_region (id := 0) ?_; refine se ?_; refine eb ?_; refine sq qa ?_; refine sq qa ?_; refine sq qa ?_; refine l_nil ?_) | (refine c_region (id := 1) ?_; refine sq qf ?_; refine sq ql ?_; refine sq qrem ?_; refine l_nil ?_) | (refine c_region (id := 2) ?_; refine sq (by first | exact deqlt | exact deqlf) ?_; refine sq qa ?_; refine l_nil ?_) | (refine c_region (id := 7) ?_; refine sq (by first | exact deqlt | exact deqlf) ?_; refine sq qa ?_; refine l_nil ?_) | (refine c_region (id := 8) ?_; refine sq qm ?_; refine se ?_; refine ecp rfl rfl (fun w hC hm hL => by have h9 := rtake_c a len cap xs hxl hxb hcap hl9 w (hs.ch0 hC); rw [hnx] at h9; exact h9) ?_; intro m' hm'; refine sq qm ?_; refine sq qe ?_; refine sq qe ?_; refine sq qa ?_; refine sq qa ?_; refine l_nil ?_) | (refine c_region (id := 9) ?_; refine sq qm ?_; refine sq (by first | exact deqlt | exact deqlf) ?_; refine sq qm ?_; (first | refine sk ?_ | refine skv ?_ | (refine st_want rfl rfl ?_; refine sq qf ?_)); (first | refine sk ?_ | refine skv ?_ | (refine st_want rfl rfl ?_; refine sq ql ?_)); (first | refine sk ?_ | refine skv ?_ | (refine st_want rfl rfl ?_; refine sq (by exact Qt.cast (v' := .int .i64 (toI x)) (congrArg (Value.int .i64) (by simp only [IntKind.wrap_i64]; unfold toI; split <;> omega)) (q_conv rfl)) ?_)); (first | refine sk ?_ | refine skv ?_ | (refine st_want rfl rfl ?_; refine sq (by first | exact dlsst | exact dlssf) ?_)); refine sq (by first | exact qpt | exact qpf) ?_; refine sq qm ?_; (first | refine sk ?_ | refine skv ?_ | (refine st_want rfl rfl ?_; refine sq qm ?_)); (first | refine sk ?_ | refine skv ?_ | (refine st_want rfl rfl ?_; refine sq qf ?_)); (first | refine sk ?_ | refine skv ?_ | (refine st_want rfl rfl ?_; refine sq ql ?_)); (first | refine sk ?_ | refine skv ?_ | (refine st_want rfl rfl ?_; refine sq (by first | exact dgtrt | exact dgtrf) ?_)); refine sq (by first | exact qpt | exact qpf) ?_; refine sq qm ?_; (first | refine sk ?_ | refine skv ?_ | (refine st_want rfl rfl ?_; refine sq qm ?_)); (first | refine sk ?_ | refine skv ?_ | (refine st_want rfl rfl ?_; refine sq (by first | exact dgtrt | exact dgtrf) ?_)); refine sq (by first | exact qpt | exact qpf) ?_; refine sq qm ?_; (first | refine sk ?_ | refine skv ?_ | (refine st_want rfl rfl ?_; refine sq qm ?_)); (first | refine sk ?_ | refine skv ?_ | (refine st_want rfl rfl ?_; refine sq qm ?_)); (first | refine sk ?_ | refine skv ?_ | (refine st_want rfl rfl ?_; refine sq qls ?_)); (first | refine sk ?_ | refine skv ?_ | (refine st_want rfl rfl ?_; refine sq qm ?_)); (first | refine sk ?_ | refine skv ?_ | (refine st_want rfl rfl ?_; refine sq (by exact Qt.cast (v' := .int .i64 ((len : Int) - (n1 : Int))) rfl (q_sub64 rfl rfl ⟨by omega, by omega⟩ rfl)) ?_)); (first | refine sk ?_ | refine skv ?_ | (refine st_want rfl rfl ?_; refine sq (by exact Qt.cast (v' := .int .u64 ((len - n1 : Nat) : Int)) (congrArg (Value.int .u64) (by omega)) (q_convU rfl)) ?_)); (first | refine sk ?_ | refine skv ?_ | (refine st_want rfl rfl ?_; refine sq (by first | exact dgtrt | exact dgtrf) ?_)); refine sq (by first | exact qpt | exact qpf) ?_; refine l_nil ?_) | (refine x_region (id := 11) none [(0, .n), (1, .n), (2, .n), (3, .n), (4, .n), (5, .n), (6, .n), (7, .n), (8, .n), (9, .n), (10, .n), (11, .n), (12, .n), (13, .n)] _ mixed (by kernel_rfl) (List.Sublist.refl _) ?_; refine xn rfl qm ?_; refine xn rfl qm ?_; refine xn rfl qm ?_; refine xn rfl qm ?_; refine xn rfl (by exact Qt.cast (v' := .int .i64 ((x1 : Nat) : Int)) (congrArg (Value.int .i64) (by omega)) (q_conv_i64 rfl (by omega) (by omega))) ?_; refine xn rfl (by exact Qt.cast (v' := .int .i64 ((n1 + x1 : Nat) : Int)) (congrArg (Value.int .i64) (by omega)) (q_add64 rfl rfl ⟨by omega, by omega⟩ rfl)) ?_; refine xn rfl (by exact q_slice (b' := (if cap = n1 then a else a.map (·.add (n1 * 1)))) (len' := x1) (cap' := cap - n1) rfl rfl rfl (by omega) (by omega) (by omega) (by omega) (by rw [Int.toNat_natCast]) (by omega) (by omega)) ?_; refine xn rfl qm ?_; refine xn rfl qm ?_; refine xn rfl (by exact Qt.cast (v' := .int .i64 ((x1 : Nat) : Int)) (congrArg (Value.int .i64) (by omega)) (q_conv_i64 rfl (by omega) (by omega))) ?_; refine xn rfl (by exact Qt.cast (v' := .int .i64 ((n1 + x1 : Nat) : Int)) (congrArg (Value.int .i64) (by omega)) (q_add64 rfl rfl ⟨by omega, by omega⟩ rfl)) ?_; refine xn rfl qa ?_; refine xn rfl qa ?_; refine xn rfl qa ?_; refine x_nil ?_) | refine n_then ?_ | refine c_block ?_ | refine c_skip ?_ | refine n_block ?_ | refine c_exit ?_ | refine n_then_exit ?_ | refine n_block_eq ?_ | refine n_block_ne rfl ?_ | refine c_ret ?_ | refine n_then_ret ?_ | refine n_block_ret ?_ | refine c_cond_t rfl ?_ | refine c_cond_f rfl ?_ | refine r_succ ?_ )
      (first | apply r_ret ((if cap = n1 then a else a.map (·.add (n1 * 1))), cap - n1) | apply r_end ((if cap = n1 then a else a.map (·.add (n1 * 1))), cap - n1)); exact rfl; exact rfl; exact (.tmp rfl (.tmp rfl (.tmp rfl .nil))); exact rfl; exact (List.nil_sublist _); exact new_nil; exact ⟨by omega, fun _ h9 => (cut_sl h9 (by omega)).tk _⟩
    · rw [if_neg k1] at hg
      by_cases k2 : kd % 4 = 2
      · rw [if_pos k2] at hg
        split at hg
        · cases hg
        rename_i hno
        simp only [not_or, Int.not_lt] at hno
        obtain ⟨h2, h3⟩ := hno
        rw [hxl] at h3
        simp only [Option.some.injEq, Prod.mk.injEq] at hg
        obtain ⟨rfl, rfl, rfl⟩ := hg
        obtain ⟨k9, hk9⟩ : ∃ k9 : Nat, (k9 : Int) = toI x := ⟨(toI x).toNat, by omega⟩
        have hkt : (toI x).toNat = k9 := by omega
        have etl : (xs.take k9).length = k9 := by rw [List.length_take]; omega
        rw [hkt, etl]
        refine enter (L := []) (X := []) Tryd.func39 rfl Tryd.ntmps39 rfl rfl (Has.nil _) ?_
        rw [← hhb]
        repeat (first | refine c_seq ?_ | (refine c_region (id := 0) ?_; refine se ?_; refine eb ?_; refine sq qa ?_; refine sq qa ?_; refine sq qa ?_; refine l_nil ?_) | (refine c_region (id := 1) ?_; refine sq qf ?_; refine sq ql ?_; refine sq qrem ?_; refine l_nil ?_) | (refine c_region (id := 2) ?_; refine sq (by first | exact deqlt | exact deqlf) ?_; refine sq qa ?_; refine l_nil ?_) | (refine c_region (id := 7) ?_; refine sq (by first | exact deqlt | exact deqlf) ?_; refine sq qa ?_; refine l_nil ?_) | (refine c_region (id := 12) ?_; refine sq (by first | exact deqlt | exact deqlf) ?_; refine sq qa ?_; refine l_nil ?_) | (refine c_region (id := 13) ?_; refine sq qf ?_; refine sq ql ?_; refine sq (by exact Qt.cast (v' := .int .i64 ((k9 : Nat) : Int)) (congrArg (Value.int .i64) (by rw [hk9]; simp only [IntKind.wrap_i64]; unfold toI; split <;> omega)) (q_conv rfl)) ?_; refine sq qa ?_; refine l_nil ?_) | (refine c_region (id := 14) ?_; refine sq qm ?_; refine sq (by first | exact dlsst | exact dlssf) ?_; refine sq qm ?_; (first | refine sk ?_ | refine skv ?_ | (refine st_want rfl rfl ?_; refine sq qm ?_)); (first | refine sk ?_ | refine skv ?_ | (refine st_want rfl rfl ?_; refine sq qm ?_)); (first | refine sk ?_ | refine skv ?_ | (refine st_want rfl rfl ?_; refine sq qls ?_)); (first | refine sk ?_ | refine skv ?_ | (refine st_want rfl rfl ?_; refine sq (by first | exact dgtrt | exact dgtrf) ?_)); refine sq (by first | exact qpt | exact qpf) ?_; refine l_nil ?_) | (refine x_region (id := 16) none [(0, .n), (1, .n), (2, .n), (3, .n), (4, .n), (5, .n), (6, .n)] _ mixed (by kernel_rfl) (List.Sublist.refl _) ?_; refine xn rfl qm ?_; refine xn rfl qm ?_; refine xn rfl (by exact q_slice (b' := (if cap = 0 then a else a.map (·.add (0 * 1)))) (len' := k9) (cap' := cap) rfl rfl rfl (by omega) (by omega) (by omega) (by omega) (by rfl) (by omega) (by omega)) ?_; refine xn rfl qm ?_; refine xn rfl qa ?_; refine xn rfl qa ?_; refine xn rfl qa ?_; refine x_nil ?_) | refine n_then ?_ | refine c_block ?_ | refine c_skip ?_ | refine n_block ?_ | refine c_exit ?_ | refine n_then_exit ?_ | refine n_block_eq ?_ | refine n_block_ne rfl ?_ | refine c_ret ?_ | refine n_then_ret ?_ | refine n_block_ret ?_ | refine c_cond_t rfl ?_ | refine c_cond_f rfl ?_ | refine r_succ ?_ )
        (first | apply r_ret ((if cap = 0 then a else a.map (·.add (0 * 1))), cap) | apply r_end ((if cap = 0 then a else a.map (·.add (0 * 1))), cap)); exact rfl; exact rfl; exact (.tmp rfl (.tmp rfl (.tmp rfl .nil))); exact rfl; exact (List.nil_sublist _); exact new_nil; exact ⟨by omega, fun _ h9 => pre_sl h9⟩
      · rw [if_neg k2] at hg
        split at hg
        · cases hg
        rename_i hno
        simp only [not_or, Int.not_lt] at hno
        obtain ⟨h2, hy1⟩ := hno
        simp only [Option.some.injEq, Prod.mk.injEq] at hg
        obtain ⟨rfl, rfl, rfl⟩ := hg
        obtain ⟨g, o, rfl, hOk⟩ := hs.get (i := 0) (by omega)
        obtain ⟨y, hye⟩ : ∃ y, y = xs.getD 0 0 := ⟨_, rfl⟩
        have hyg : xs[0]? = some y := by rw [hye, List.getD_eq_getElem?_getD, List.getElem?_eq_getElem (by omega), Option.getD_some]
        have hy0 := hxb y (List.mem_of_getElem? hyg)
        have hyi : nth (xs.map (Value.int .u8)) 0 = some (.int .u8 y) := nth_map hyg
        rw [← hye] at hy1 ⊢
        obtain ⟨y, rfl⟩ : ∃ q : Nat, y = (q : Int) := ⟨y.toNat, by omega⟩
        rw [Int.toNat_natCast]
        refine enter (L := []) (X := []) Tryd.func39 rfl Tryd.ntmps39 rfl rfl (Has.nil _) ?_
        rw [← hhb]
        repeat (first | refine c_seq ?_ | (refine c_region (id := 0) ?_; refine se ?_; refine eb ?_; refine sq qa ?_; refine sq qa ?_; refine sq qa ?_; refine l_nil ?_) | (refine c_region (id := 1) ?_; refine sq qf ?_; refine sq ql ?_; refine sq qrem ?_; refine l_nil ?_) | (refine c_region (id := 2) ?_; refine sq (by first | exact deqlt | exact deqlf) ?_; refine sq qa ?_; refine l_nil ?_) | (refine c_region (id := 7) ?_; refine sq (by first | exact deqlt | exact deqlf) ?_; refine sq qa ?_; refine l_nil ?_) | (refine c_region (id := 12) ?_; refine sq (by first | exact deqlt | exact deqlf) ?_; refine sq qa ?_; refine l_nil ?_) | (refine c_region (id := 17) ?_; refine sq qm ?_; refine sq qls ?_; refine sq (by first | exact deqlt | exact deqlf) ?_; refine sq qm ?_; (first | refine sk ?_ | refine skv ?_ | (refine st_want rfl rfl ?_; refine sq qm ?_)); (first | refine sk ?_ | refine skv ?_ | (refine st_want rfl rfl ?_; refine sq (by exact q_indexAddr_sl (o' := o) rfl rfl (by omega) (by omega) (by omega)) ?_)); (first | refine sk ?_ | refine skv ?_ | (refine st_want rfl rfl ?_; refine sq (by exact q_load rfl (Rd.oldn (j := 0) hOk hyi (by simp))) ?_)); (first | refine sk ?_ | refine skv ?_ | (refine st_want rfl rfl ?_; refine sq (by first | exact dgtrt | exact dgtrf) ?_)); refine sq (by first | exact qpt | exact qpf) ?_; refine l_nil ?_) | (refine c_region (id := 19) ?_; refine sq qm ?_; refine sq (by exact q_indexAddr_sl (o' := o) rfl rfl (by omega) (by omega) (by omega)) ?_; refine sq (by exact q_load rfl (Rd.oldn (j := 0) hOk hyi (by simp))) ?_; refine sq (by exact Qt.cast (v' := .int .u64 ((y : Nat) : Int)) (congrArg (Value.int .u64) (by omega)) (q_convU rfl)) ?_; refine sq qa ?_; refine sq qa ?_; refine sq qa ?_; refine l_nil ?_) | refine n_then ?_ | refine c_block ?_ | refine c_skip ?_ | refine n_block ?_ | refine c_exit ?_ | refine n_then_exit ?_ | refine n_block_eq ?_ | refine n_block_ne rfl ?_ | refine c_ret ?_ | refine n_then_ret ?_ | refine n_block_ret ?_ | refine c_cond_t rfl ?_ | refine c_cond_f rfl ?_ | refine r_succ ?_ )
        (first | apply r_ret (none, 0) | apply r_end (none, 0)); exact rfl; exact rfl; exact (.tmp rfl (.tmp rfl (.tmp rfl .nil))); exact rfl; exact (List.nil_sublist _); exact new_nil; exact ⟨by omega, fun _ _ => ⟨.inl rfl⟩⟩
set_option maxRecDepth 100000 in
set_option maxHeartbeats 4000000 in
theorem gotno_c (a : Option Addr) (len cap : Nat) (xs : List Int) (hxl : xs.length = len) (hxb : ∀ x ∈ xs, 0 ≤ x ∧ x ≤ 255) (hcap : len ≤ cap) (hl9 : len ≤ 100000) (w : World) (hs : SlE (Value.int .u8) w a xs) (kd x : Nat) (pa : Option Addr) (pl pc : Nat) (hkd : kd < 256) (hx64 : x < 18446744073709551616) (hg : gotX xs kd x = none) :
    CA Tryd.prog 39 [.slice a len cap, .agg #[.int .u8 (kd : Int), .int .u64 (x : Int), .slice pa pl pc]] w (RV (.tuple #[.int .u64 0, .slice none 0 0, .int .i64 (-1)]) w) := by
  obtain ⟨hb, hhb⟩ : ∃ q, q = w.heap.size := ⟨_, rfl⟩
  unfold gotX at hg
  by_cases k0 : kd % 4 = 0
  · rw [if_pos k0] at hg
    obtain ⟨x1, n1, hnx⟩ : ∃ x1 n1, numX xs = (x1, n1) := ⟨_, _, rfl⟩
    rw [hnx] at hg
    split at hg
    rotate_left
    · cases hg
    rename_i hno
    dsimp only at hno
    by_cases hn : n1 = 0
    · refine enter (L := []) (X := []) Tryd.func39 rfl Tryd.ntmps39 rfl rfl (Has.nil _) ?_
      rw [← hhb]
      repeat (first | refine c_seq ?_ | (refine c_region (id := 0) ?_; refine se ?_; refine eb ?_; refine sq qa ?_; refine sq qa ?_; refine sq qa ?_; refine l_nil ?_) | (refine c_region (id := 1) ?_; refine sq qf ?_; refine sq ql ?_; refine sq qrem ?_; refine l_nil ?_) | (refine c_region (id := 2) ?_; refine sq (by first | exact deqlt | exact deqlf) ?_; refine sq qa ?_; refine l_nil ?_) | (refine c_region (id := 3) ?_; refine sq qm ?_; refine se ?_; refine ecp rfl rfl (fun w hC hm hL => by have h9 := rtake_c a len cap xs hxl hxb hcap hl9 w (hs.ch0 hC); rw [hnx] at h9; exact h9) ?_; intro m' hm'; refine sq qm ?_; refine sq qe ?_; refine sq qe ?_; refine sq qa ?_; refine sq qa ?_; refine l_nil ?_) | (refine c_region (id := 4) ?_; refine sq qm ?_; refine sq (by first | exact deqlt | exact deqlf) ?_; refine sq qm ?_; (first | refine sk ?_ | refine skv ?_ | (refine st_want rfl rfl ?_; refine sq qm ?_)); (first | refine sk ?_ | refine skv ?_ | (refine st_want rfl rfl ?_; refine sq qf ?_)); (first | refine sk ?_ | refine skv ?_ | (refine st_want rfl rfl ?_; refine sq ql ?_)); (first | refine sk ?_ | refine skv ?_ | (refine st_want rfl rfl ?_; refine sq (by first | exact dgtrt | exact dgtrf) ?_)); refine sq (by first | exact qpt | exact qpf) ?_; refine l_nil ?_) | (refine c_region (id := 5) ?_; refine sq qa ?_; refine sq qa ?_; refine sq qa ?_; refine l_nil ?_) | refine n_then ?_ | refine c_block ?_ | refine c_skip ?_ | refine n_block ?_ | refine c_exit ?_ | refine n_then_exit ?_ | refine n_block_eq ?_ | refine n_block_ne rfl ?_ | refine c_ret ?_ | refine n_then_ret ?_ | refine n_block_ret ?_ | refine c_cond_t rfl ?_ | refine c_cond_f rfl ?_ | refine r_succ ?_ )
      (first | apply r_ret () | apply r_end ()); exact rfl; exact rfl; exact (.tmp rfl (.tmp rfl (.tmp rfl .nil))); exact rfl; exact (List.nil_sublist _); exact new_nil; exact trivial
    · refine enter (L := []) (X := []) Tryd.func39 rfl Tryd.ntmps39 rfl rfl (Has.nil _) ?_
      rw [← hhb]
      repeat (first | refine c_seq ?_ | (refine c_region (id := 0) ?_; refine se ?_; refine eb ?_; refine sq qa ?_; refine sq qa ?_; refine sq qa ?_; refine l_nil ?_) | (refine c_region (id := 1) ?_; refine sq qf ?_; refine sq ql ?_; refine sq qrem ?_; refine l_nil ?_) | (refine c_region (id := 2) ?_; refine sq (by first | exact deqlt | exact deqlf) ?_; refine sq qa ?_; refine l_nil ?_) | (refine c_region (id := 3) ?_; refine sq qm ?_; refine se ?_; refine ecp rfl rfl (fun w hC hm hL => by have h9 := rtake_c a len cap xs hxl hxb hcap hl9 w (hs.ch0 hC); rw [hnx] at h9; exact h9) ?_; intro m' hm'; refine sq qm ?_; refine sq qe ?_; refine sq qe ?_; refine sq qa ?_; refine sq qa ?_; refine l_nil ?_) | (refine c_region (id := 4) ?_; refine sq qm ?_; refine sq (by first | exact deqlt | exact deqlf) ?_; refine sq qm ?_; (first | refine sk ?_ | refine skv ?_ | (refine st_want rfl rfl ?_; refine sq qm ?_)); (first | refine sk ?_ | refine skv ?_ | (refine st_want rfl rfl ?_; refine sq qf ?_)); (first | refine sk ?_ | refine skv ?_ | (refine st_want rfl rfl ?_; refine sq ql ?_)); (first | refine sk ?_ | refine skv ?_ | (refine st_want rfl rfl ?_; refine sq (by first | exact dgtrt | exact dgtrf) ?_)); refine sq (by first | exact qpt | exact qpf) ?_; refine l_nil ?_) | (refine c_region (id := 5) ?_; refine sq qa ?_; refine sq qa ?_; refine sq qa ?_; refine l_nil ?_) | refine n_then ?_ | refine c_block ?_ | refine c_skip ?_ | refine n_block ?_ | refine c_exit ?_ | refine n_then_exit ?_ | refine n_block_eq ?_ | refine n_block_ne rfl ?_ | refine c_ret ?_ | refine n_then_ret ?_ | refine n_block_ret ?_ | refine c_cond_t rfl ?_ | refine c_cond_f rfl ?_ | refine r_succ ?_ )
      (first | apply r_ret () | apply r_end ()); exact rfl; exact rfl; exact (.tmp rfl (.tmp rfl (.tmp rfl .nil))); exact rfl; exact (List.nil_sublist _); exact new_nil; exact trivial
  · rw [if_neg k0] at hg
    by_cases k1 : kd % 4 = 1
    · rw [if_pos k1] at hg
      obtain ⟨x1, n1, hnx⟩ : ∃ x1 n1, numX xs = (x1, n1) := ⟨_, _, rfl⟩
      rw [hnx] at hg
      split at hg
      rotate_left
      · cases hg
      rename_i hno
      dsimp only at hno
      rw [hxl] at hno
      by_cases hn : n1 = 0
      · refine enter (L := []) (X := []) Tryd.func39 rfl Tryd.ntmps39 rfl rfl (Has.nil _) ?_
        rw [← hhb]
        repeat (first | refine c_seq ?_ | (refine c_region (id := 0) ?_; refine se ?_; refine eb ?_; refine sq qa ?_; refine sq qa ?_; refine sq qa ?_; refine l_nil ?_) | (refine c_region (id := 1) ?_; refine sq qf ?_; refine sq ql ?_; refine sq qrem ?_; refine l_nil ?_) | (refine c_region (id := 2) ?_; refine sq (by first | exact deqlt | exact deqlf) ?_; refine sq qa ?_; refine l_nil ?_) | (refine c_region (id := 7) ?_; refine sq (by first | exact deqlt | exact deqlf) ?_; refine sq qa ?_; refine l_nil ?_) | (refine c_region (id := 8) ?_; refine sq qm ?_; refine se ?_; refine ecp rfl rfl (fun w hC hm hL => by have h9 := rtake_c a len cap xs hxl hxb hcap hl9 w (hs.ch0 hC); rw [hnx] at h9; exact h9) ?_; intro m' hm'; refine sq qm ?_; refine sq qe ?_; refine sq qe ?_; refine sq qa ?_; refine sq qa ?_; refine l_nil ?_) | (refine c_region (id := 9) ?_; refine sq qm ?_; refine sq (by first | exact deqlt | exact deqlf) ?_; refine sq qm ?_; (first | refine sk ?_ | refine skv ?_ | (refine st_want rfl rfl ?_; refine sq qf ?_)); (first | refine sk ?_ | refine skv ?_ | (refine st_want rfl rfl ?_; refine sq ql ?_)); (first | refine sk ?_ | refine skv ?_ | (refine st_want rfl rfl ?_; refine sq (by exact Qt.cast (v' := .int .i64 (toI x)) (congrArg (Value.int .i64) (by simp only [IntKind.wrap_i64]; unfold toI; split <;> omega)) (q_conv rfl)) ?_)); (first | refine sk ?_ | refine skv ?_ | (refine st_want rfl rfl ?_; refine sq (by first | exact dlsst | exact dlssf) ?_)); refine sq (by first | exact qpt | exact qpf) ?_; refine sq qm ?_; (first | refine sk ?_ | refine skv ?_ | (refine st_want rfl rfl ?_; refine sq qm ?_)); (first | refine sk ?_ | refine skv ?_ | (refine st_want rfl rfl ?_; refine sq qf ?_)); (first | refine sk ?_ | refine skv ?_ | (refine st_want rfl rfl ?_; refine sq ql ?_)); (first | refine sk ?_ | refine skv ?_ | (refine st_want rfl rfl ?_; refine sq (by first | exact dgtrt | exact dgtrf) ?_)); refine sq (by first | exact qpt | exact qpf) ?_; refine sq qm ?_; (first | refine sk ?_ | refine skv ?_ | (refine st_want rfl rfl ?_; refine sq qm ?_)); (first | refine sk ?_ | refine skv ?_ | (refine st_want rfl rfl ?_; refine sq (by first | exact dgtrt | exact dgtrf) ?_)); refine sq (by first | exact qpt | exact qpf) ?_; refine sq qm ?_; (first | refine sk ?_ | refine skv ?_ | (refine st_want rfl rfl ?_; refine sq qm ?_)); (first | refine sk ?_ | refine skv ?_ | (refine st_want rfl rfl ?_; refine sq qm ?_)); (first | refine sk ?_ | refine skv ?_ | (refine st_want rfl rfl ?_; refine sq qls ?_)); (first | refine sk ?_ | refine skv ?_ | (refine st_want rfl rfl ?_; refine sq qm ?_)); (first | refine sk ?_ | refine skv ?_ | (refine st_want rfl rfl ?_; refine sq (by exact Qt.cast (v' := .int .i64 ((len : Int) - (n1 : Int))) rfl (q_sub64 rfl rfl ⟨by omega, by omega⟩ rfl)) ?_)); (first | refine sk ?_ | refine skv ?_ | (refine st_want rfl rfl ?_; refine sq (by exact Qt.cast (v' := .int .u64 ((len - n1 : Nat) : Int)) (congrArg (Value.int .u64) (by omega)) (q_convU rfl)) ?_)); (first | refine sk ?_ | refine skv ?_ | (refine st_want rfl rfl ?_; refine sq (by first | exact dgtrt | exact dgtrf) ?_)); refine sq (by first | exact qpt | exact qpf) ?_; refine l_nil ?_) | (refine c_region (id := 10) ?_; refine sq qa ?_; refine sq qa ?_; refine sq qa ?_; refine l_nil ?_) | refine n_then ?_ | refine c_block ?_ | refine c_skip ?_ | refine n_block ?_ | refine c_exit ?_ | refine n_then_exit ?_ | refine n_block_eq ?_ | refine n_block_ne rfl ?_ | refine c_ret ?_ | refine n_then_ret ?_ | refine n_block_ret ?_ | refine c_cond_t rfl ?_ | refine c_cond_f rfl ?_ | refine r_succ ?_ )
        (first | apply r_ret () | apply r_end ()); exact rfl; exact rfl; exact (.tmp rfl (.tmp rfl (.tmp rfl .nil))); exact rfl; exact (List.nil_sublist _); exact new_nil; exact trivial
      · have hsp := numX_spec hxb hnx hn
        have hnl := hsp.2.1
        by_cases h2 : toI x < 0
        · refine enter (L := []) (X := []) Tryd.func39 rfl Tryd.ntmps39 rfl rfl (Has.nil _) ?_
          rw [← hhb]
          repeat (first | refine c_seq ?_ | (refine c_region (id := 0) ?_; refine se ?_; refine eb ?_; refine sq qa ?_; refine sq qa ?_; refine sq qa ?_; refine l_nil ?_) | (refine c_region (id := 1) ?_; refine sq qf ?_; refine sq ql ?_; refine sq qrem ?_; refine l_nil ?_) | (refine c_region (id := 2) ?_; refine sq (by first | exact deqlt | exact deqlf) ?_; refine sq qa ?_; refine l_nil ?_) | (refine c_region (id := 7) ?_; refine sq (by first | exact deqlt | exact deqlf) ?_; refine sq qa ?_; refine l_nil ?_) | (refine c_region (id := 8) ?_; refine sq qm ?_; refine se ?_; refine ecp rfl rfl (fun w hC hm hL => by have h9 := rtake_c a len cap xs hxl hxb hcap hl9 w (hs.ch0 hC); rw [hnx] at h9; exact h9) ?_; intro m' hm'; refine sq qm ?_; refine sq qe ?_; refine sq qe ?_; refine sq qa ?_; refine sq qa ?_; refine l_nil ?_) | (refine c_region (id := 9) ?_; refine sq qm ?_; refine sq (by first | exact deqlt | exact deqlf) ?_; refine sq qm ?_; (first | refine sk ?_ | refine skv ?_ | (refine st_want rfl rfl ?_; refine sq qf ?_)); (first | refine sk ?_ | refine skv ?_ | (refine st_want rfl rfl ?_; refine sq ql ?_)); (first | refine sk ?_ | refine skv ?_ | (refine st_want rfl rfl ?_; refine sq (by exact Qt.cast (v' := .int .i64 (toI x)) (congrArg (Value.int .i64) (by simp only [IntKind.wrap_i64]; unfold toI; split <;> omega)) (q_conv rfl)) ?_)); (first | refine sk ?_ | refine skv ?_ | (refine st_want rfl rfl ?_; refine sq (by first | exact dlsst | exact dlssf) ?_)); refine sq (by first | exact qpt | exact qpf) ?_; refine sq qm ?_; (first | refine sk ?_ | refine skv ?_ | (refine st_want rfl rfl ?_; refine sq qm ?_)); (first | refine sk ?_ | refine skv ?_ | (refine st_want rfl rfl ?_; refine sq qf ?_)); (first | refine sk ?_ | refine skv ?_ | (refine st_want rfl rfl ?_; refine sq ql ?_)); (first | refine sk ?_ | refine skv ?_ | (refine st_want rfl rfl ?_; refine sq (by first | exact dgtrt | exact dgtrf) ?_)); refine sq (by first | exact qpt | exact qpf) ?_; refine sq qm ?_; (first | refine sk ?_ | refine skv ?_ | (refine st_want rfl rfl ?_; refine sq qm ?_)); (first | refine sk ?_ | refine skv ?_ | (refine st_want rfl rfl ?_; refine sq (by first | exact dgtrt | exact dgtrf) ?_)); refine sq (by first | exact qpt | exact qpf) ?_; refine sq qm ?_; (first | refine sk ?_ | refine skv ?_ | (refine st_want rfl rfl ?_; refine sq qm ?_)); (first | refine sk ?_ | refine skv ?_ | (refine st_want rfl rfl ?_; refine sq qm ?_)); (first | refine sk ?_ | refine skv ?_ | (refine st_want rfl rfl ?_; refine sq qls ?_)); (first | refine sk ?_ | refine skv ?_ | (refine st_want rfl rfl ?_; refine sq qm ?_)); (first | refine sk ?_ | refine skv ?_ | (refine st_want rfl rfl ?_; refine sq (by exact Qt.cast (v' := .int .i64 ((len : Int) - (n1 : Int))) rfl (q_sub64 rfl rfl ⟨by omega, by omega⟩ rfl)) ?_)); (first | refine sk ?_ | refine skv ?_ | (refine st_want rfl rfl ?_; refine sq (by exact Qt.cast (v' := .int .u64 ((len - n1 : Nat) : Int)) (congrArg (Value.int .u64) (by omega)) (q_convU rfl)) ?_)); (first | refine sk ?_ | refine skv ?_ | (refine st_want rfl rfl ?_; refine sq (by first | exact dgtrt | exact dgtrf) ?_)); refine sq (by first | exact qpt | exact qpf) ?_; refine l_nil ?_) | (refine c_region (id := 10) ?_; refine sq qa ?_; refine sq qa ?_; refine sq qa ?_; refine l_nil ?_) | refine n_then ?_ | refine c_block ?_ | refine c_skip ?_ | refine n_block ?_ | refine c_exit ?_ | refine n_then_exit ?_ | refine n_block_eq ?_ | refine n_block_ne rfl ?_ | refine c_ret ?_ | refine n_then_ret ?_ | refine n_block_ret ?_ | refine c_cond_t rfl ?_ | refine c_cond_f rfl ?_ | refine r_succ ?_ )
          (first | apply r_ret () | apply r_end ()); exact rfl; exact rfl; exact (.tmp rfl (.tmp rfl (.tmp rfl .nil))); exact rfl; exact (List.nil_sublist _); exact new_nil; exact trivial
        · have h6 := toI_pos (by omega) hx64
          by_cases h3 : x < x1
          · refine enter (L := []) (X := []) Tryd.func39 rfl Tryd.ntmps39 rfl rfl (Has.nil _) ?_
            rw [← hhb]
            repeat (first | refine c_seq ?_ | (refine c_region (id := 0) ?_; refine se ?_; refine eb ?_; refine sq qa ?_; refine sq qa ?_; refine sq qa ?_; refine l_nil ?_) | (refine c_region (id := 1) ?_; refine sq qf ?_; refine sq ql ?_; refine sq qrem ?_; refine l_nil ?_) | (refine c_region (id := 2) ?_; refine sq (by first | exact deqlt | exact deqlf) ?_; refine sq qa ?_; refine l_nil ?_) | (refine c_region (id := 7) ?_; refine sq (by first | exact deqlt | exact deqlf) ?_; refine sq qa ?_; refine l_nil ?_) | (refine c_region (id := 8) ?_; refine sq qm ?_; refine se ?_; refine ecp rfl rfl (fun w hC hm hL => by have h9 := rtake_c a len cap xs hxl hxb hcap hl9 w (hs.ch0 hC); rw [hnx] at h9; exact h9) ?_; intro m' hm'; refine sq qm ?_; refine sq qe ?_; refine sq qe ?_; refine sq qa ?_; refine sq qa ?_; refine l_nil ?_) | (refine c_region (id := 9) ?_; refine sq qm ?_; refine sq (by first | exact deqlt | exact deqlf) ?_; refine sq qm ?_; (first | refine sk ?_ | refine skv ?_ | (refine st_want rfl rfl ?_; refine sq qf ?_)); (first | refine sk ?_ | refine skv ?_ | (refine st_want rfl rfl ?_; refine sq ql ?_)); (first | refine sk ?_ | refine skv ?_ | (refine st_want rfl rfl ?_; refine sq (by exact Qt.cast (v' := .int .i64 (toI x)) (congrArg (Value.int .i64) (by simp only [IntKind.wrap_i64]; unfold toI; split <;> omega)) (q_conv rfl)) ?_)); (first | refine sk ?_ | refine skv ?_ | (refine st_want rfl rfl ?_; refine sq (by first | exact dlsst | exact dlssf) ?_)); refine sq (by first | exact qpt | exact qpf) ?_; refine sq qm ?_; (first | refine sk ?_ | refine skv ?_ | (refine st_want rfl rfl ?_; refine sq qm ?_)); (first | refine sk ?_ | refine skv ?_ | (refine st_want rfl rfl ?_; refine sq qf ?_)); (first | refine sk ?_ | refine skv ?_ | (refine st_want rfl rfl ?_; refine sq ql ?_)); (first | refine sk ?_ | refine skv ?_ | (refine st_want rfl rfl ?_; refine sq (by first | exact dgtrt | exact dgtrf) ?_)); refine sq (by first | exact qpt | exact qpf) ?_; refine sq qm ?_; (first | refine sk ?_ | refine skv ?_ | (refine st_want rfl rfl ?_; refine sq qm ?_)); (first | refine sk ?_ | refine skv ?_ | (refine st_want rfl rfl ?_; refine sq (by first | exact dgtrt | exact dgtrf) ?_)); refine sq (by first | exact qpt | exact qpf) ?_; refine sq qm ?_; (first | refine sk ?_ | refine skv ?_ | (refine st_want rfl rfl ?_; refine sq qm ?_)); (first | refine sk ?_ | refine skv ?_ | (refine st_want rfl rfl ?_; refine sq qm ?_)); (first | refine sk ?_ | refine skv ?_ | (refine st_want rfl rfl ?_; refine sq qls ?_)); (first | refine sk ?_ | refine skv ?_ | (refine st_want rfl rfl ?_; refine sq qm ?_)); (first | refine sk ?_ | refine skv ?_ | (refine st_want rfl rfl ?_; refine sq (by exact Qt.cast (v' := .int .i64 ((len : Int) - (n1 : Int))) rfl (q_sub64 rfl rfl ⟨by omega, by omega⟩ rfl)) ?_)); (first | refine sk ?_ | refine skv ?_ | (refine st_want rfl rfl ?_; refine sq (by exact Qt.cast (v' := .int .u64 ((len - n1 : Nat) : Int)) (congrArg (Value.int .u64) (by omega)) (q_convU rfl)) ?_)); (first | refine sk ?_ | refine skv ?_ | (refine st_want rfl rfl ?_; refine sq (by first | exact dgtrt | exact dgtrf) ?_)); refine sq (by first | exact qpt | exact qpf) ?_; refine l_nil ?_) | (refine c_region (id := 10) ?_; refine sq qa ?_; refine sq qa ?_; refine sq qa ?_; refine l_nil ?_) | refine n_then ?_ | refine c_block ?_ | refine c_skip ?_ | refine n_block ?_ | refine c_exit ?_ | refine n_then_exit ?_ | refine n_block_eq ?_ | refine n_block_ne rfl ?_ | refine c_ret ?_ | refine n_then_ret ?_ | refine n_block_ret ?_ | refine c_cond_t rfl ?_ | refine c_cond_f rfl ?_ | refine r_succ ?_ )
            (first | apply r_ret () | apply r_end ()); exact rfl; exact rfl; exact (.tmp rfl (.tmp rfl (.tmp rfl .nil))); exact rfl; exact (List.nil_sublist _); exact new_nil; exact trivial
          · by_cases h4 : 4096 < x1
            · refine enter (L := []) (X := []) Tryd.func39 rfl Tryd.ntmps39 rfl rfl (Has.nil _) ?_
              rw [← hhb]
              repeat (first | refine c_seq ?_ | (refine c_region (id := 0) ?_; refine se ?_; refine eb ?_; refine sq qa ?_; refine sq qa ?_; refine sq qa ?_; refine l_nil ?_) | (refine c_region (id := 1) ?_; refine sq qf ?_; refine sq ql ?_; refine sq qrem ?_; refine l_nil ?_) | (refine c_region (id := 2) ?_; refine sq (by first | exact deqlt | exact deqlf) ?_; refine sq qa ?_; refine l_nil ?_) | (refine c_region (id := 7) ?_; refine sq (by first | exact deqlt | exact deqlf) ?_; refine sq qa ?_; refine l_nil ?_) | (refine c_region (id := 8) ?_; refine sq qm ?_; refine se ?_; refine ecp rfl rfl (fun w hC hm hL => by have h9 := rtake_c a len cap xs hxl hxb hcap hl9 w (hs.ch0 hC); rw [hnx] at h9; exact h9) ?_; intro m' hm'; refine sq qm ?_; refine sq qe ?_; refine sq qe ?_; refine sq qa ?_; refine sq qa ?_; refine l_nil ?_) | (refine c_region (id := 9) ?_; refine sq qm ?_; refine sq (by first | exact deqlt | exact deqlf) ?_; refine sq qm ?_; (first | refine sk ?_ | refine skv ?_ | (refine st_want rfl rfl ?_; refine sq qf ?_)); (first | refine sk ?_ | refine skv ?_ | (refine st_want rfl rfl ?_; refine sq ql ?_)); (first | refine sk ?_ | refine skv ?_ | (refine st_want rfl rfl ?_; refine sq (by exact Qt.cast (v' := .int .i64 (toI x)) (congrArg (Value.int .i64) (by simp only [IntKind.wrap_i64]; unfold toI; split <;> omega)) (q_conv rfl)) ?_)); (first | refine sk ?_ | refine skv ?_ | (refine st_want rfl rfl ?_; refine sq (by first | exact dlsst | exact dlssf) ?_)); refine sq (by first | exact qpt | exact qpf) ?_; refine sq qm ?_; (first | refine sk ?_ | refine skv ?_ | (refine st_want rfl rfl ?_; refine sq qm ?_)); (first | refine sk ?_ | refine skv ?_ | (refine st_want rfl rfl ?_; refine sq qf ?_)); (first | refine sk ?_ | refine skv ?_ | (refine st_want rfl rfl ?_; refine sq ql ?_)); (first | refine sk ?_ | refine skv ?_ | (refine st_want rfl rfl ?_; refine sq (by first | exact dgtrt | exact dgtrf) ?_)); refine sq (by first | exact qpt | exact qpf) ?_; refine sq qm ?_; (first | refine sk ?_ | refine skv ?_ | (refine st_want rfl rfl ?_; refine sq qm ?_)); (first | refine sk ?_ | refine skv ?_ | (refine st_want rfl rfl ?_; refine sq (by first | exact dgtrt | exact dgtrf) ?_)); refine sq (by first | exact qpt | exact qpf) ?_; refine sq qm ?_; (first | refine sk ?_ | refine skv ?_ | (refine st_want rfl rfl ?_; refine sq qm ?_)); (first | refine sk ?_ | refine skv ?_ | (refine st_want rfl rfl ?_; refine sq qm ?_)); (first | refine sk ?_ | refine skv ?_ | (refine st_want rfl rfl ?_; refine sq qls ?_)); (first | refine sk ?_ | refine skv ?_ | (refine st_want rfl rfl ?_; refine sq qm ?_)); (first | refine sk ?_ | refine skv ?_ | (refine st_want rfl rfl ?_; refine sq (by exact Qt.cast (v' := .int .i64 ((len : Int) - (n1 : Int))) rfl (q_sub64 rfl rfl ⟨by omega, by omega⟩ rfl)) ?_)); (first | refine sk ?_ | refine skv ?_ | (refine st_want rfl rfl ?_; refine sq (by exact Qt.cast (v' := .int .u64 ((len - n1 : Nat) : Int)) (congrArg (Value.int .u64) (by omega)) (q_convU rfl)) ?_)); (first | refine sk ?_ | refine skv ?_ | (refine st_want rfl rfl ?_; refine sq (by first | exact dgtrt | exact dgtrf) ?_)); refine sq (by first | exact qpt | exact qpf) ?_; refine l_nil ?_) | (refine c_region (id := 10) ?_; refine sq qa ?_; refine sq qa ?_; refine sq qa ?_; refine l_nil ?_) | refine n_then ?_ | refine c_block ?_ | refine c_skip ?_ | refine n_block ?_ | refine c_exit ?_ | refine n_then_exit ?_ | refine n_block_eq ?_ | refine n_block_ne rfl ?_ | refine c_ret ?_ | refine n_then_ret ?_ | refine n_block_ret ?_ | refine c_cond_t rfl ?_ | refine c_cond_f rfl ?_ | refine r_succ ?_ )
              (first | apply r_ret () | apply r_end ()); exact rfl; exact rfl; exact (.tmp rfl (.tmp rfl (.tmp rfl .nil))); exact rfl; exact (List.nil_sublist _); exact new_nil; exact trivial
            · refine enter (L := []) (X := []) Tryd.func39 rfl Tryd.ntmps39 rfl rfl (Has.nil _) ?_
              rw [← hhb]
              repeat (first | refine c_seq ?_ | (refine c_region (id := 0) ?_; refine se ?_; refine eb ?_; refine sq qa ?_; refine sq qa ?_; refine sq qa ?_; refine l_nil ?_) | (refine c_region (id := 1) ?_; refine sq qf ?_; refine sq ql ?_; refine sq qrem ?_; refine l_nil ?_) | (refine c_region (id := 2) ?_; refine sq (by first | exact deqlt | exact deqlf) ?_; refine sq qa ?_; refine l_nil ?_) | (refine c_region (id := 7) ?_; refine sq (by first | exact deqlt | exact deqlf) ?_; refine sq qa ?_; refine l_nil ?_) | (refine c_region (id := 8) ?_; refine sq qm ?_; refine se ?_; refine ecp rfl rfl (fun w hC hm hL => by have h9 := rtake_c a len cap xs hxl hxb hcap hl9 w (hs.ch0 hC); rw [hnx] at h9; exact h9) ?_; intro m' hm'; refine sq qm ?_; refine sq qe ?_; refine sq qe ?_; refine sq qa ?_; refine sq qa ?_; refine l_nil ?_) | (refine c_region (id := 9) ?_; refine sq qm ?_; refine sq (by first | exact deqlt | exact deqlf) ?_; refine sq qm ?_; (first | refine sk ?_ | refine skv ?_ | (refine st_want rfl rfl ?_; refine sq qf ?_)); (first | refine sk ?_ | refine skv ?_ | (refine st_want rfl rfl ?_; refine sq ql ?_)); (first | refine sk ?_ | refine skv ?_ | (refine st_want rfl rfl ?_; refine sq (by exact Qt.cast (v' := .int .i64 (toI x)) (congrArg (Value.int .i64) (by simp only [IntKind.wrap_i64]; unfold toI; split <;> omega)) (q_conv rfl)) ?_)); (first | refine sk ?_ | refine skv ?_ | (refine st_want rfl rfl ?_; refine sq (by first | exact dlsst | exact dlssf) ?_)); refine sq (by first | exact qpt | exact qpf) ?_; refine sq qm ?_; (first | refine sk ?_ | refine skv ?_ | (refine st_want rfl rfl ?_; refine sq qm ?_)); (first | refine sk ?_ | refine skv ?_ | (refine st_want rfl rfl ?_; refine sq qf ?_)); (first | refine sk ?_ | refine skv ?_ | (refine st_want rfl rfl ?_; refine sq ql ?_)); (first | refine sk ?_ | refine skv ?_ | (refine st_want rfl rfl ?_; refine sq (by first | exact dgtrt | exact dgtrf) ?_)); refine sq (by first | exact qpt | exact qpf) ?_; refine sq qm ?_; (first | refine sk ?_ | refine skv ?_ | (refine st_want rfl rfl ?_; refine sq qm ?_)); (first | refine sk ?_ | refine skv ?_ | (refine st_want rfl rfl ?_; refine sq (by first | exact dgtrt | exact dgtrf) ?_)); refine sq (by first | exact qpt | exact qpf) ?_; refine sq qm ?_; (first | refine sk ?_ | refine skv ?_ | (refine st_want rfl rfl ?_; refine sq qm ?_)); (first | refine sk ?_ | refine skv ?_ | (refine st_want rfl rfl ?_; refine sq qm ?_)); (first | refine sk ?_ | refine skv ?_ | (refine st_want rfl rfl ?_; refine sq qls ?_)); (first | refine sk ?_ | refine skv ?_ | (refine st_want rfl rfl ?_; refine sq qm ?_)); (first | refine sk ?_ | refine skv ?_ | (refine st_want rfl rfl ?_; refine sq (by exact Qt.cast (v' := .int .i64 ((len : Int) - (n1 : Int))) rfl (q_sub64 rfl rfl ⟨by omega, by omega⟩ rfl)) ?_)); (first | refine sk ?_ | refine skv ?_ | (refine st_want rfl rfl ?_; refine sq (by exact Qt.cast (v' := .int .u64 ((len - n1 : Nat) : Int)) (congrArg (Value.int .u64) (by omega)) (q_convU rfl)) ?_)); (first | refine sk ?_ | refine skv ?_ | (refine st_want rfl rfl ?_; refine sq (by first | exact dgtrt | exact dgtrf) ?_)); refine sq (by first | exact qpt | exact qpf) ?_; refine l_nil ?_) | (refine c_region (id := 10) ?_; refine sq qa ?_; refine sq qa ?_; refine sq qa ?_; refine l_nil ?_) | refine n_then ?_ | refine c_block ?_ | refine c_skip ?_ | refine n_block ?_ | refine c_exit ?_ | refine n_then_exit ?_ | refine n_block_eq ?_ | refine n_block_ne rfl ?_ | refine c_ret ?_ | refine n_then_ret ?_ | refine n_block_ret ?_ | refine c_cond_t rfl ?_ | refine c_cond_f rfl ?_ | refine r_succ ?_ )
              (first | apply r_ret () | apply r_end ()); exact rfl; exact rfl; exact (.tmp rfl (.tmp rfl (.tmp rfl .nil))); exact rfl; exact (List.nil_sublist _); exact new_nil; exact trivial
    · rw [if_neg k1] at hg
      by_cases k2 : kd % 4 = 2
      · rw [if_pos k2] at hg
        split at hg
        rotate_left
        · cases hg
        rename_i hno
        rw [hxl] at hno
        by_cases h2 : toI x < 0
        · refine enter (L := []) (X := []) Tryd.func39 rfl Tryd.ntmps39 rfl rfl (Has.nil _) ?_
          rw [← hhb]
          repeat (first | refine c_seq ?_ | (refine c_region (id := 0) ?_; refine se ?_; refine eb ?_; refine sq qa ?_; refine sq qa ?_; refine sq qa ?_; refine l_nil ?_) | (refine c_region (id := 1) ?_; refine sq qf ?_; refine sq ql ?_; refine sq qrem ?_; refine l_nil ?_) | (refine c_region (id := 2) ?_; refine sq (by first | exact deqlt | exact deqlf) ?_; refine sq qa ?_; refine l_nil ?_) | (refine c_region (id := 7) ?_; refine sq (by first | exact deqlt | exact deqlf) ?_; refine sq qa ?_; refine l_nil ?_) | (refine c_region (id := 12) ?_; refine sq (by first | exact deqlt | exact deqlf) ?_; refine sq qa ?_; refine l_nil ?_) | (refine c_region (id := 13) ?_; refine sq qf ?_; refine sq ql ?_; refine sq (by exact Qt.cast (v' := .int .i64 (toI x)) (congrArg (Value.int .i64) (by simp only [IntKind.wrap_i64]; unfold toI; split <;> omega)) (q_conv rfl)) ?_; refine sq qa ?_; refine l_nil ?_) | (refine c_region (id := 14) ?_; refine sq qm ?_; refine sq (by first | exact dlsst | exact dlssf) ?_; refine sq qm ?_; (first | refine sk ?_ | refine skv ?_ | (refine st_want rfl rfl ?_; refine sq qm ?_)); (first | refine sk ?_ | refine skv ?_ | (refine st_want rfl rfl ?_; refine sq qm ?_)); (first | refine sk ?_ | refine skv ?_ | (refine st_want rfl rfl ?_; refine sq qls ?_)); (first | refine sk ?_ | refine skv ?_ | (refine st_want rfl rfl ?_; refine sq (by first | exact dgtrt | exact dgtrf) ?_)); refine sq (by first | exact qpt | exact qpf) ?_; refine l_nil ?_) | (refine c_region (id := 15) ?_; refine sq qa ?_; refine sq qa ?_; refine sq qa ?_; refine l_nil ?_) | refine n_then ?_ | refine c_block ?_ | refine c_skip ?_ | refine n_block ?_ | refine c_exit ?_ | refine n_then_exit ?_ | refine n_block_eq ?_ | refine n_block_ne rfl ?_ | refine c_ret ?_ | refine n_then_ret ?_ | refine n_block_ret ?_ | refine c_cond_t rfl ?_ | refine c_cond_f rfl ?_ | refine r_succ ?_ )
          (first | apply r_ret () | apply r_end ()); exact rfl; exact rfl; exact (.tmp rfl (.tmp rfl (.tmp rfl .nil))); exact rfl; exact (List.nil_sublist _); exact new_nil; exact trivial
        · refine enter (L := []) (X := []) Tryd.func39 rfl Tryd.ntmps39 rfl rfl (Has.nil _) ?_
          rw [← hhb]
          repeat (first | refine c_seq ?_ | (refine c_region (id := 0) ?_; refine se ?_; refine eb ?_; refine sq qa ?_; refine sq qa ?_; refine sq qa ?_; refine l_nil ?_) | (refine c_region (id := 1) ?_; refine sq qf ?_; refine sq ql ?_; refine sq qrem ?_; refine l_nil ?_) | (refine c_region (id := 2) ?_; refine sq (by first | exact deqlt | exact deqlf) ?_; refine sq qa ?_; refine l_nil ?_) | (refine c_region (id := 7) ?_; refine sq (by first | exact deqlt | exact deqlf) ?_; refine sq qa ?_; refine l_nil ?_) | (refine c_region (id := 12) ?_; refine sq (by first | exact deqlt | exact deqlf) ?_; refine sq qa ?_; refine l_nil ?_) | (refine c_region (id := 13) ?_; refine sq qf ?_; refine sq ql ?_; refine sq (by exact Qt.cast (v' := .int .i64 (toI x)) (congrArg (Value.int .i64) (by simp only [IntKind.wrap_i64]; unfold toI; split <;> omega)) (q_conv rfl)) ?_; refine sq qa ?_; refine l_nil ?_) | (refine c_region (id := 14) ?_; refine sq qm ?_; refine sq (by first | exact dlsst | exact dlssf) ?_; refine sq qm ?_; (first | refine sk ?_ | refine skv ?_ | (refine st_want rfl rfl ?_; refine sq qm ?_)); (first | refine sk ?_ | refine skv ?_ | (refine st_want rfl rfl ?_; refine sq qm ?_)); (first | refine sk ?_ | refine skv ?_ | (refine st_want rfl rfl ?_; refine sq qls ?_)); (first | refine sk ?_ | refine skv ?_ | (refine st_want rfl rfl ?_; refine sq (by first | exact dgtrt | exact dgtrf) ?_)); refine sq (by first | exact qpt | exact qpf) ?_; refine l_nil ?_) | (refine c_region (id := 15) ?_; refine sq qa ?_; refine sq qa ?_; refine sq qa ?_; refine l_nil ?_) | refine n_then ?_ | refine c_block ?_ | refine c_skip ?_ | refine n_block ?_ | refine c_exit ?_ | refine n_then_exit ?_ | refine n_block_eq ?_ | refine n_block_ne rfl ?_ | refine c_ret ?_ | refine n_then_ret ?_ | refine n_block_ret ?_ | refine c_cond_t rfl ?_ | refine c_cond_f rfl ?_ | refine r_succ ?_ )
          (first | apply r_ret () | apply r_end ()); exact rfl; exact rfl; exact (.tmp rfl (.tmp rfl (.tmp rfl .nil))); exact rfl; exact (List.nil_sublist _); exact new_nil; exact trivial
      · rw [if_neg k2] at hg
        split at hg
        rotate_left
        · cases hg
        rename_i hno
        by_cases h2 : len = 0
        · refine enter (L := []) (X := []) Tryd.func39 rfl Tryd.ntmps39 rfl rfl (Has.nil _) ?_
          rw [← hhb]
          repeat (first | refine c_seq ?_ | (refine c_region (id := 0) ?_; refine se ?_; refine eb ?_; refine sq qa ?_; refine sq qa ?_; refine sq qa ?_; refine l_nil ?_) | (refine c_region (id := 1) ?_; refine sq qf ?_; refine sq ql ?_; refine sq qrem ?_; refine l_nil ?_) | (refine c_region (id := 2) ?_; refine sq (by first | exact deqlt | exact deqlf) ?_; refine sq qa ?_; refine l_nil ?_) | (refine c_region (id := 7) ?_; refine sq (by first | exact deqlt | exact deqlf) ?_; refine sq qa ?_; refine l_nil ?_) | (refine c_region (id := 12) ?_; refine sq (by first | exact deqlt | exact deqlf) ?_; refine sq qa ?_; refine l_nil ?_) | (refine c_region (id := 17) ?_; refine sq qm ?_; refine sq qls ?_; refine sq (by first | exact deqlt | exact deqlf) ?_; refine sq qm ?_; (first | refine sk ?_ | refine skv ?_ | (refine st_want rfl rfl ?_; refine sq qm ?_)); (first | refine sk ?_ | refine skv ?_ | (refine st_want rfl rfl ?_; refine sq (by exact q_indexAddr_sl (o' := o) rfl rfl (by omega) (by omega) (by omega)) ?_)); (first | refine sk ?_ | refine skv ?_ | (refine st_want rfl rfl ?_; refine sq (by exact q_load rfl (Rd.oldn (j := 0) hOk hyi (by simp))) ?_)); (first | refine sk ?_ | refine skv ?_ | (refine st_want rfl rfl ?_; refine sq (by first | exact dgtrt | exact dgtrf) ?_)); refine sq (by first | exact qpt | exact qpf) ?_; refine l_nil ?_) | (refine c_region (id := 18) ?_; refine sq qa ?_; refine sq qa ?_; refine sq qa ?_; refine l_nil ?_) | refine n_then ?_ | refine c_block ?_ | refine c_skip ?_ | refine n_block ?_ | refine c_exit ?_ | refine n_then_exit ?_ | refine n_block_eq ?_ | refine n_block_ne rfl ?_ | refine c_ret ?_ | refine n_then_ret ?_ | refine n_block_ret ?_ | refine c_cond_t rfl ?_ | refine c_cond_f rfl ?_ | refine r_succ ?_ )
          (first | apply r_ret () | apply r_end ()); exact rfl; exact rfl; exact (.tmp rfl (.tmp rfl (.tmp rfl .nil))); exact rfl; exact (List.nil_sublist _); exact new_nil; exact trivial
        · obtain ⟨g, o, rfl, hOk⟩ := hs.get (i := 0) (by omega)
          obtain ⟨y, hye⟩ : ∃ y, y = xs.getD 0 0 := ⟨_, rfl⟩
          have hyg : xs[0]? = some y := by rw [hye, List.getD_eq_getElem?_getD, List.getElem?_eq_getElem (by omega), Option.getD_some]
          have hyi : nth (xs.map (Value.int .u8)) 0 = some (.int .u8 y) := nth_map hyg
          rw [← hye] at hno
          refine enter (L := []) (X := []) Tryd.func39 rfl Tryd.ntmps39 rfl rfl (Has.nil _) ?_
          rw [← hhb]
          repeat (first | refine c_seq ?_ | (refine c_region (id := 0) ?_; refine se ?_; refine eb ?_; refine sq qa ?_; refine sq qa ?_; refine sq qa ?_; refine l_nil ?_) | (refine c_region (id := 1) ?_; refine sq qf ?_; refine sq ql ?_; refine sq qrem ?_; refine l_nil ?_) | (refine c_region (id := 2) ?_; refine sq (by first | exact deqlt | exact deqlf) ?_; refine sq qa ?_; refine l_nil ?_) | (refine c_region (id := 7) ?_; refine sq (by first | exact deqlt | exact deqlf) ?_; refine sq qa ?_; refine l_nil ?_) | (refine c_region (id := 12) ?_; refine sq (by first | exact deqlt | exact deqlf) ?_; refine sq qa ?_; refine l_nil ?_) | (refine c_region (id := 17) ?_; refine sq qm ?_; refine sq qls ?_; refine sq (by first | exact deqlt | exact deqlf) ?_; refine sq qm ?_; (first | refine sk ?_ | refine skv ?_ | (refine st_want rfl rfl ?_; refine sq qm ?_)); (first | refine sk ?_ | refine skv ?_ | (refine st_want rfl rfl ?_; refine sq (by exact q_indexAddr_sl (o' := o) rfl rfl (by omega) (by omega) (by omega)) ?_)); (first | refine sk ?_ | refine skv ?_ | (refine st_want rfl rfl ?_; refine sq (by exact q_load rfl (Rd.oldn (j := 0) hOk hyi (by simp))) ?_)); (first | refine sk ?_ | refine skv ?_ | (refine st_want rfl rfl ?_; refine sq (by first | exact dgtrt | exact dgtrf) ?_)); refine sq (by first | exact qpt | exact qpf) ?_; refine l_nil ?_) | (refine c_region (id := 18) ?_; refine sq qa ?_; refine sq qa ?_; refine sq qa ?_; refine l_nil ?_) | refine n_then ?_ | refine c_block ?_ | refine c_skip ?_ | refine n_block ?_ | refine c_exit ?_ | refine n_then_exit ?_ | refine n_block_eq ?_ | refine n_block_ne rfl ?_ | refine c_ret ?_ | refine n_then_ret ?_ | refine n_block_ret ?_ | refine c_cond_t rfl ?_ | refine c_cond_f rfl ?_ | refine r_succ ?_ )
          (first | apply r_ret () | apply r_end ()); exact rfl; exact rfl; exact (.tmp rfl (.tmp rfl (.tmp rfl .nil))); exact rfl; exact (List.nil_sublist _); exact new_nil; exact trivial
end Go.Proofs.YtgmghkakiocmjaaDoor
namespace Go.Proofs.YtgmghkakiocmjaaDoor
open Go Go.RowKit
set_option linter.unusedVariables false
set_option linter.unusedSimpArgs false
structure CPrt.Os (w : World) (p : CPrt) : Prop where
  s : SlE (Value.int .u8) w p.a p.xs
  l : p.xs.length = p.len
theorem CPrt.Ok.os {w : World} {p : CPrt} (h : p.Ok w) : p.Os w := ⟨h.s, h.l⟩
theorem got_recs {ys : List Int} {v n : Nat} {tx : List Int} (h : gotX ys 1 4096 = some (v, tx, n)) : recs ys = tx :: recs (ys.drop n) ∧ n ≤ ys.length ∧ 0 < n := by
  unfold gotX at h
  rw [if_neg (by omega), if_pos (by omega)] at h
  split at h
  · cases h
  rename_i hno
  have ht : toI 4096 = 4096 := rfl
  simp only [not_or, Nat.not_lt, Int.not_lt, ht] at hno
  obtain ⟨h1, h2, h3, h4, h5⟩ := hno
  simp only [Option.some.injEq, Prod.mk.injEq] at h
  obtain ⟨rfl, rfl, rfl⟩ := h
  exact ⟨recs_ok (ys := ys) (x := (numX ys).1) (n := (numX ys).2) rfl h1 h4 h5, h5, by omega⟩
theorem got_recs0 {ys : List Int} (h : gotX ys 1 4096 = none) : recs ys = [] := by
  unfold gotX at h
  rw [if_neg (by omega), if_pos (by omega)] at h
  split at h
  · rename_i hno
    have ht : toI 4096 = 4096 := rfl
    rw [ht] at hno
    exact recs_no (by omega)
  · cases h
set_option maxRecDepth 100000 in
set_option maxHeartbeats 4000000 in
theorem rtaken_c (a0 : Option Addr) (len cap0 : Nat) (xs : List Int) (hxl : xs.length = len) (hxb : ∀ x ∈ xs, 0 ≤ x ∧ x ≤ 255) (hcap : len ≤ cap0) (hl9 : len ≤ 100000) (hc9 : cap0 ≤ 9223372036854775807) (w : World) (hs : SlE (Value.int .u8) w a0 xs) :
    CA Tryd.prog 15 [.slice a0 len cap0] w (Ret (fun z : Option Addr × Nat × List CPrt => .slice z.1 z.2.2.length z.2.1) [] (fun z => [.sl z.1 z.2.1 30 1 ((z.2.2).map CPrt.v)]) (fun z => BK z.1 z.2.1 z.2.2.length ∧ z.2.2.map (·.xs) = recs xs ∧ ∀ w', SlE (Value.int .u8) w' a0 xs → ∀ p ∈ z.2.2, p.Os w') w) := by
  refine enter (L := []) (X := []) Tryd.func15 rfl Tryd.ntmps15 rfl rfl (Has.nil _) ?_
  repeat (first | refine c_seq ?_ | (refine c_region (id := 0) ?_; refine sq qa ?_; refine l_nil ?_) | (refine c_region (id := 1) ?_; refine sq qa ?_; refine l_nil ?_) | refine n_then ?_ | refine c_block ?_ | refine c_skip ?_ | refine n_block ?_ | refine c_exit ?_ | refine n_then_exit ?_ | refine n_block_eq ?_ | refine n_block_ne rfl ?_ | refine c_ret ?_ | refine n_then_ret ?_ | refine n_block_ret ?_ | refine c_cond_t rfl ?_ | refine c_cond_f rfl ?_ | refine r_succ ?_ )
  refine add_nil 30 1 ?_
  refine c_loop (γ := List CPrt × (Option Addr × Nat) × (Option Addr × Nat × Nat × List Int) × Nat) (fun z => [(0, .slice z.2.2.1.1 z.2.2.1.2.1 z.2.2.1.2.2.1), (3, .slice z.2.1.1 z.1.length z.2.1.2)]) (fun z => z.2.2.2) (fun z => [.sl z.2.1.1 z.2.1.2 30 1 ((z.1).map CPrt.v)]) (fun z => OS [] w.heap.size z.2.1.1 z.2.1.2 z.1.length ∧ z.1.map (·.xs) ++ recs z.2.2.1.2.2.2 = recs xs ∧ (z.2.2.1.2.2.2.length = z.2.2.1.2.1 ∧ z.2.2.1.2.1 ≤ z.2.2.1.2.2.1 ∧ z.2.2.1.2.2.1 ≤ 9223372036854775807 ∧ z.2.2.1.2.1 + z.1.length ≤ len ∧ ∀ x ∈ z.2.2.1.2.2.2, 0 ≤ x ∧ x ≤ 255) ∧ (∀ w', SlE (Value.int .u8) w' a0 xs → SlE (Value.int .u8) w' z.2.2.1.1 z.2.2.1.2.2.2 ∧ ∀ p ∈ z.1, p.Os w') ∧ w.heap.size ≤ z.2.2.2) (fun z => z.2.2.1.2.1) ⟨[], (none, 0), (a0, len, cap0, xs), w.heap.size⟩ ⟨OS.nil _ _, by simp, ⟨hxl, hcap, hc9, by simp, hxb⟩, fun w' h => ⟨h, by simp⟩, Nat.le_refl _⟩ ⟨rfl, rfl, trivial⟩ rfl (by exact (by (repeat (first | exact List.nil_sublist _ | exact List.Sublist.slnil | apply List.Sublist.cons_cons | exact List.Sublist.refl _ | apply List.Sublist.cons)))) ?_
  rintro ⟨ps, ⟨b, cap⟩, ⟨a, ll, lc, ys⟩, mm⟩ ⟨ho, hrec, ⟨hyl, hlc, hl99, hcnt, hyb⟩, hall, hmm⟩
  dsimp only at ho hrec hyl hlc hl99 hcnt hyb hall hmm ⊢
  have hsy := (hall w hs).1
  by_cases h0 : ll = 0
  · have e0 : ys = [] := List.eq_nil_of_length_eq_zero (by omega)
    repeat (first | refine c_seq ?_ | (refine c_region (id := 2) ?_; refine sq qm ?_; refine sq qls ?_; refine sq (by first | exact dgtrt | exact dgtrf) ?_; refine l_nil ?_) | (refine c_region (id := 8) ?_; refine sq qm ?_; refine sq qa ?_; refine l_nil ?_) | refine n_then ?_ | refine c_block ?_ | refine c_skip ?_ | refine n_block ?_ | refine c_exit ?_ | refine n_then_exit ?_ | refine n_block_eq ?_ | refine n_block_ne rfl ?_ | refine c_ret ?_ | refine n_then_ret ?_ | refine n_block_ret ?_ | refine c_cond_t rfl ?_ | refine c_cond_f rfl ?_ | refine r_succ ?_ )
    (first | apply r_ret (b, cap, ps) | apply r_end (b, cap, ps)); exact rfl; exact rfl; exact (.tmp rfl .nil); exact rfl; exact (by exact (by (repeat (first | exact List.nil_sublist _ | exact List.Sublist.slnil | apply List.Sublist.cons_cons | exact List.Sublist.refl _ | apply List.Sublist.cons)))); exact (new_sl ho.newc new_nil); exact ⟨ho.ret, by rw [← hrec, e0]; simp [recs, recF], fun w' h => (hall w' h).2⟩
  cases hg : gotX ys 1 4096 with
  | none =>
    repeat (first | refine c_seq ?_ | (refine c_region (id := 2) ?_; refine sq qm ?_; refine sq qls ?_; refine sq (by first | exact dgtrt | exact dgtrf) ?_; refine l_nil ?_) | (refine c_region (id := 3) ?_; refine sq qm ?_; refine sq qbs ?_; refine se ?_; refine ecp rfl rfl (fun w hC hm hL => by have h9 := gotno_c a ll lc ys hyl hyb hlc (by omega) w (hsy.ch0 hC) 1 4096 none 0 0 (by omega) (by omega) hg; exact h9) ?_; intro m' hm'; refine sq qm ?_; refine sq qe ?_; refine sq qe ?_; refine sq qe ?_; refine sq qa ?_; refine sq qa ?_; refine sq qa ?_; refine l_nil ?_) | (refine c_region (id := 4) ?_; refine sq qm ?_; refine sq (by first | exact dlsst | exact dlssf) ?_; refine l_nil ?_) | (refine c_region (id := 5) ?_; refine sq qm ?_; refine sq qa ?_; refine l_nil ?_) | refine n_then ?_ | refine c_block ?_ | refine c_skip ?_ | refine n_block ?_ | refine c_exit ?_ | refine n_then_exit ?_ | refine n_block_eq ?_ | refine n_block_ne rfl ?_ | refine c_ret ?_ | refine n_then_ret ?_ | refine n_block_ret ?_ | refine c_cond_t rfl ?_ | refine c_cond_f rfl ?_ | refine r_succ ?_ )
    (first | apply r_ret (b, cap, ps) | apply r_end (b, cap, ps)); exact rfl; exact rfl; exact (.tmp rfl .nil); exact rfl; exact (by exact (by (repeat (first | exact List.nil_sublist _ | exact List.Sublist.slnil | apply List.Sublist.cons_cons | exact List.Sublist.refl _ | apply List.Sublist.cons)))); exact (new_sl ho.newc new_nil); exact ⟨ho.ret, by rw [← hrec, got_recs0 hg]; simp, fun w' h => (hall w' h).2⟩
  | some q =>
    obtain ⟨v, tx, n⟩ := q
    obtain ⟨hr2, hnl, hn0⟩ := got_recs hg
    have hv0 : v = 0 := by
      unfold gotX at hg
      rw [if_neg (by omega), if_pos (by omega)] at hg
      split at hg
      · cases hg
      · simp only [Option.some.injEq, Prod.mk.injEq] at hg; exact hg.1.symm
    have htx : ∀ x ∈ tx, 0 ≤ x ∧ x ≤ 255 := by
      unfold gotX at hg
      rw [if_neg (by omega), if_pos (by omega)] at hg
      split at hg
      · cases hg
      · simp only [Option.some.injEq, Prod.mk.injEq] at hg
        rw [← hg.2.1]
        exact fun x hx => hyb x (List.mem_of_mem_drop (List.mem_of_mem_take hx))
    repeat (first | refine c_seq ?_ | (refine c_region (id := 2) ?_; refine sq qm ?_; refine sq qls ?_; refine sq (by first | exact dgtrt | exact dgtrf) ?_; refine l_nil ?_) | (refine c_region (id := 3) ?_; refine sq qm ?_; refine sq qbs ?_; refine se ?_; refine ecl rfl rfl (fun w hC hm hL => by have h9 := got_c a ll lc ys hyl hyb hlc (by omega) w (hsy.ch0 hC) 1 4096 none 0 0 (by omega) (by omega) v n tx hg; exact h9) ?_; intro z1 m1 hz1 hn1 hm1; obtain ⟨t2, c2⟩ := z1; dsimp only at hz1 ⊢; refine chg (L' := [.sl b cap 30 1 (ps.map CPrt.v)]) (by rfl) ?_; refine sq qm ?_; refine sq qe ?_; refine sq qe ?_; refine sq qe ?_; refine sq qa ?_; refine sq qa ?_; refine sq qa ?_; refine l_nil ?_) | (refine c_region (id := 4) ?_; refine sq qm ?_; refine sq (by first | exact dlsst | exact dlssf) ?_; refine l_nil ?_) | (refine c_region (id := 6) ?_; refine sq qm ?_; refine sq qm ?_; refine se ?_; refine ebs ?_; refine se ?_; refine e_appM CPrt.v ps (⟨t2, tx.length, c2, tx⟩ : CPrt) rfl rfl rfl (by (repeat (first | exact Rm.here | apply Rm.there))) (by (repeat (first | exact List.Mem.head _ | apply List.Mem.tail))) rfl ho (by rfl) (by omega) (by omega) ?_; intro b2 cap2 m2 ho2 hm2; refine sq qa ?_; refine l_nil ?_) | (refine c_region (id := 7) ?_; refine sq qm ?_; refine sq qm ?_; refine sq (by exact qs (b' := (if lc = n then a else a.map (·.add (n * 1)))) (len' := ll - n) (cap' := lc - n) (hb' := by rw [Int.toNat_natCast])) ?_; refine sq qa ?_; refine l_nil ?_) | refine n_then ?_ | refine c_block ?_ | refine c_skip ?_ | refine n_block ?_ | refine c_exit ?_ | refine n_then_exit ?_ | refine n_block_eq ?_ | refine n_block_ne rfl ?_ | refine c_ret ?_ | refine n_then_ret ?_ | refine n_block_ret ?_ | refine c_cond_t rfl ?_ | refine c_cond_f rfl ?_ | refine r_succ ?_ )
    refine c_round ⟨ps ++ [(⟨t2, tx.length, c2, tx⟩ : CPrt)], (b2, cap2), ((if lc = n then a else a.map (·.add (n * 1))), ll - n, lc - n, ys.drop n), m2⟩ ⟨by simpa using ho2, by simp only [List.map_append, List.map_cons, List.map_nil, List.append_assoc, List.cons_append, List.nil_append]; rw [← hr2]; exact hrec, ⟨by dsimp only; rw [List.length_drop]; omega, by dsimp only; omega, by dsimp only; omega, by simp; omega, fun x hx => hyb x (List.mem_of_mem_drop hx)⟩, fun w' h => ⟨?_, fun q hq => ?_⟩, by dsimp only; omega⟩ (by dsimp only; omega) ⟨rfl, by simp; try rfl, trivial⟩ (by rfl) (by exact (by (repeat (first | exact List.nil_sublist _ | exact List.Sublist.slnil | apply List.Sublist.cons_cons | exact List.Sublist.refl _ | apply List.Sublist.cons))))
    · have h9 := cut_sl (n := n) (hall w' h).1 (cap := lc) (by omega)
      exact h9
    · rcases List.mem_append.1 hq with h1 | h1
      · exact (hall w' h).2 q h1
      · simp only [List.mem_singleton] at h1
        subst h1
        exact ⟨hz1.2 w' (hall w' h).1, rfl⟩
set_option maxRecDepth 100000 in
set_option maxHeartbeats 4000000 in
theorem rsame_os (ps qs : List CPrt) (ap aq : Option Addr) (cp cq : Nat) (he : ps.map (·.xs) = qs.map (·.xs)) (hn : ps.length ≤ 1000000) (w : World) (hps : ∀ p ∈ ps, p.Os w) (hqs : ∀ p ∈ qs, p.Os w) (hO : SlE CPrt.v w ap ps) (hQ : SlE CPrt.v w aq qs) :
    CA Tryd.prog 10 [.slice ap ps.length cp, .slice aq qs.length cq] w (RV (.bool true) w) := by
  have hl : ps.length = qs.length := by have := congrArg List.length he; simpa using this
  refine enter (L := []) (X := []) Tryd.func10 rfl Tryd.ntmps10 rfl rfl (Has.nil _) ?_
  repeat (first | refine c_seq ?_ | (refine c_region (id := 0) ?_; refine sq qa ?_; refine l_nil ?_) | (refine c_region (id := 1) ?_; refine sq qm ?_; refine sq qls ?_; refine sq qm ?_; refine sq qls ?_; refine sq (by first | exact dneqt | exact dneqf) ?_; refine l_nil ?_) | (refine c_region (id := 3) ?_; refine sq qa ?_; refine l_nil ?_) | refine n_then ?_ | refine c_block ?_ | refine c_skip ?_ | refine n_block ?_ | refine c_exit ?_ | refine n_then_exit ?_ | refine n_block_eq ?_ | refine n_block_ne rfl ?_ | refine c_ret ?_ | refine n_then_ret ?_ | refine n_block_ret ?_ | refine c_cond_t rfl ?_ | refine c_cond_f rfl ?_ | refine r_succ ?_ )
  refine c_loop (γ := Nat) (fun i => [(5, .int .i64 i), (0, .slice ap ps.length cp), (1, .slice aq qs.length cq)]) (fun _ => w.heap.size) (fun _ => []) (fun i => i ≤ ps.length) (fun i => ps.length - i) 0 (by simp) ⟨rfl, rfl, rfl, trivial⟩ rfl (List.nil_sublist _) ?_
  intro i hi
  by_cases h8 : i < ps.length
  · obtain ⟨p, hp⟩ : ∃ p, ps[i]? = some p := ⟨_, List.getElem?_eq_getElem h8⟩
    obtain ⟨q, hq⟩ : ∃ q, qs[i]? = some q := ⟨_, List.getElem?_eq_getElem (by omega)⟩
    have hpk := hps p (List.mem_of_getElem? hp)
    have hqk := hqs q (List.mem_of_getElem? hq)
    have hxy : p.xs = q.xs := by
      have h9 : (ps.map (·.xs))[i]? = (qs.map (·.xs))[i]? := by rw [he]
      simpa [hp, hq] using h9
    obtain ⟨g1, o1, rfl, hOl⟩ := hO.get h8
    obtain ⟨g2, o2, rfl, hOr⟩ := hQ.get (i := i) (by omega)
    have hn1 : nth (ps.map CPrt.v) i = some (.slice p.a p.len p.cap) := nth_map hp
    have hn2 : nth (qs.map CPrt.v) i = some (.slice q.a q.len q.cap) := nth_map hq
    repeat (first | refine c_seq ?_ | (refine c_region (id := 4) ?_; refine sq qm ?_; refine sq qm ?_; refine sq qls ?_; refine sq (by first | exact dlsst | exact dlssf) ?_; refine l_nil ?_) | (refine c_region (id := 5) ?_; refine sq qm ?_; refine sq qadd64 ?_; refine sq qa ?_; refine l_nil ?_) | (refine x_region (id := 6) none [(0, .n), (1, .n), (2, .n), (3, .q), (4, .q), (5, .n), (6, .n), (7, .n), (8, .q), (9, .q), (10, .n)] _ mixed (by kernel_rfl) (List.Sublist.refl _) ?_; refine xn rfl qm ?_; refine xn rfl qm ?_; refine xn rfl (by exact qis (o' := o1 + i) (ho := by omega)) ?_; refine xq rfl (by exact ql (hr := Rd.oldn hOl hn1 (by simp))) ?_; refine xq rfl (by exact qcb rfl hpk.s.vw hpk.l) ?_; refine xn rfl qm ?_; refine xn rfl qm ?_; refine xn rfl (by exact qis (o' := o2 + i) (ho := by omega)) ?_; refine xq rfl (by exact ql (hr := Rd.oldn hOr hn2 (by simp))) ?_; refine xq rfl (by exact qcb rfl hqk.s.vw hqk.l) ?_; refine xn rfl (by exact Qt.cast (v' := .bool false) (congrArg Value.bool (by rw [hxy, beq_self_eq_true]; rfl)) (q_neq_str rfl rfl)) ?_; refine x_nil ?_) | refine n_then ?_ | refine c_block ?_ | refine c_skip ?_ | refine n_block ?_ | refine c_exit ?_ | refine n_then_exit ?_ | refine n_block_eq ?_ | refine n_block_ne rfl ?_ | refine c_ret ?_ | refine n_then_ret ?_ | refine n_block_ret ?_ | refine c_cond_t rfl ?_ | refine c_cond_f rfl ?_ | refine r_succ ?_ )
    refine c_round (i + 1) (by omega) (by omega) ⟨rfl, rfl, rfl, trivial⟩ rfl (List.nil_sublist _)
  · obtain rfl : i = ps.length := by omega
    repeat (first | refine c_seq ?_ | (refine c_region (id := 4) ?_; refine sq qm ?_; refine sq qm ?_; refine sq qls ?_; refine sq (by first | exact dlsst | exact dlssf) ?_; refine l_nil ?_) | (refine c_region (id := 8) ?_; refine sq qa ?_; refine l_nil ?_) | refine n_then ?_ | refine c_block ?_ | refine c_skip ?_ | refine n_block ?_ | refine c_exit ?_ | refine n_then_exit ?_ | refine n_block_eq ?_ | refine n_block_ne rfl ?_ | refine c_ret ?_ | refine n_then_ret ?_ | refine n_block_ret ?_ | refine c_cond_t rfl ?_ | refine c_cond_f rfl ?_ | refine r_succ ?_ )
    (first | apply r_ret () | apply r_end ()); exact rfl; exact rfl; exact (.tmp rfl .nil); exact rfl; exact (List.nil_sublist _); exact new_nil; exact trivial
end Go.Proofs.YtgmghkakiocmjaaDoor
namespace Go.Proofs.YtgmghkakiocmjaaDoor
open Go Go.RowKit
set_option linter.unusedVariables false
set_option linter.unusedSimpArgs false
def gB (x : Int) (j : Nat) : Int := x / 2 ^ (56 - 8 * j) % 256
def ntA (x : Int) (j : Nat) : Int := if j < 8 then gB x j else 0
def updF (F : Nat → Int) (j : Nat) (v : Int) : Nat → Int := fun q => if q = j then v else F q
theorem byS_upd (F : Nat → Int) (n j : Nat) (hj : j < n) {v : Int} : (byS F 0 n).toArray.setIfInBounds j (.int .u8 v) = (byS (updF F j v) 0 n).toArray := by
  apply Array.ext'
  rw [Array.toList_setIfInBounds]
  apply List.ext_getElem
  · simp [byS, byI]
  · intro q h1 h2
    simp [byS, byI, updF, List.getElem_set]
    split <;> rename_i e
    · rw [if_pos e.symm]
    · rw [if_neg (fun h => e h.symm)]
theorem gB_rng (x : Int) (j : Nat) : 0 ≤ gB x j ∧ gB x j ≤ 255 := by unfold gB; omega
theorem ntA_RB (x : Int) : RB (ntA x) := ⟨fun j => by unfold ntA; have := gB_rng x j; split <;> omega⟩
theorem ntA_hi (x : Int) : ∀ j, 16 ≤ j → ntA x j = 0 := fun j hj => by unfold ntA; rw [if_neg (by omega)]
theorem gen_of {x : Int} (h : 0 ≤ x ∧ x ≤ 18446744073709551615) : numB (ntA x) 0 8 = x := by
  have e0 : ntA x (0 + 0) = x / 72057594037927936 % 256 := rfl
  have e1 : ntA x (0 + 1) = x / 281474976710656 % 256 := rfl
  have e2 : ntA x (0 + 2) = x / 1099511627776 % 256 := rfl
  have e3 : ntA x (0 + 3) = x / 4294967296 % 256 := rfl
  have e4 : ntA x (0 + 4) = x / 16777216 % 256 := rfl
  have e5 : ntA x (0 + 5) = x / 65536 % 256 := rfl
  have e6 : ntA x (0 + 6) = x / 256 % 256 := rfl
  have e7 : ntA x (0 + 7) = x / 1 % 256 := rfl
  have s1 : numB (ntA x) 0 1 = x / 72057594037927936 := by rw [numB, numB, e0]; omega
  have s2 : numB (ntA x) 0 2 = x / 281474976710656 := by rw [numB, s1, e1]; omega
  have s3 : numB (ntA x) 0 3 = x / 1099511627776 := by rw [numB, s2, e2]; omega
  have s4 : numB (ntA x) 0 4 = x / 4294967296 := by rw [numB, s3, e3]; omega
  have s5 : numB (ntA x) 0 5 = x / 16777216 := by rw [numB, s4, e4]; omega
  have s6 : numB (ntA x) 0 6 = x / 65536 := by rw [numB, s5, e5]; omega
  have s7 : numB (ntA x) 0 7 = x / 256 := by rw [numB, s6, e6]; omega
  rw [numB, s7, e7]; omega
def NF (g0 g1 : Int) (n : Nat) (F : Nat → Int) : Prop := ∀ q, F q = if q < n ∧ q % 16 < 8 then gB (if q < 16 then g0 else g1) (q % 16) else 0
theorem NF.zero (g0 g1 : Int) : NF g0 g1 0 (fun _ => 0) := fun q => by rw [if_neg (by omega)]
theorem NF.step {g0 g1 : Int} {i j : Nat} {F : Nat → Int} (h : NF g0 g1 (16 * i + j) F) (hi : i < 2) (hj : j < 8) {v : Int} (hv : v = gB (if i = 0 then g0 else g1) j) : NF g0 g1 (16 * i + (j + 1)) (updF F (16 * i + j) v) := fun q => by
  unfold updF
  by_cases e : q = 16 * i + j
  · subst e
    have e1 : (16 * i + j) % 16 = j := by omega
    rw [if_pos rfl, if_pos ⟨by omega, by omega⟩, e1, hv]
    congr 1
    by_cases hi0 : i = 0
    · rw [if_pos hi0, if_pos (by omega)]
    · rw [if_neg hi0, if_neg (by omega)]
  · rw [if_neg e, h q]
    by_cases c : q < 16 * i + j ∧ q % 16 < 8
    · rw [if_pos c, if_pos (show q < 16 * i + (j + 1) ∧ q % 16 < 8 from ⟨by omega, c.2⟩)]
    · rw [if_neg c, if_neg (show ¬ (q < 16 * i + (j + 1) ∧ q % 16 < 8) by omega)]
theorem NF.row {g0 g1 : Int} {i : Nat} {F : Nat → Int} (h : NF g0 g1 (16 * i + 8) F) : NF g0 g1 (16 * (i + 1) + 0) F := fun q => by
  rw [h q]
  by_cases c : q < 16 * i + 8 ∧ q % 16 < 8
  · rw [if_pos c, if_pos (show q < 16 * (i + 1) + 0 ∧ q % 16 < 8 from ⟨by omega, c.2⟩)]
  · rw [if_neg c, if_neg (show ¬ (q < 16 * (i + 1) + 0 ∧ q % 16 < 8) by omega)]
theorem NF.note0 {g0 g1 : Int} {F : Nat → Int} (h : NF g0 g1 (16 * 2 + 0) F) : ((byS F 0 32).drop 0).take 16 = noteE (ntA g0) := by
  have e : ∀ q, q < 16 → F (0 + q) = ntA g0 q := fun q hq => by
    rw [h (0 + q), Nat.zero_add]
    unfold ntA
    have e1 : q % 16 = q := by omega
    rw [if_pos hq, e1]
    by_cases c : q < 8
    · rw [if_pos ⟨by omega, c⟩, if_pos c]
    · rw [if_neg (by omega), if_neg c]
  rw [byS_sub F 0 32 0 16 (by omega)]
  show [Value.int .u8 (F (0 + 0 + 0)), Value.int .u8 (F (0 + 0 + 1)), Value.int .u8 (F (0 + 0 + 2)), Value.int .u8 (F (0 + 0 + 3)), Value.int .u8 (F (0 + 0 + 4)), Value.int .u8 (F (0 + 0 + 5)), Value.int .u8 (F (0 + 0 + 6)), Value.int .u8 (F (0 + 0 + 7)), Value.int .u8 (F (0 + 0 + 8)), Value.int .u8 (F (0 + 0 + 9)), Value.int .u8 (F (0 + 0 + 10)), Value.int .u8 (F (0 + 0 + 11)), Value.int .u8 (F (0 + 0 + 12)), Value.int .u8 (F (0 + 0 + 13)), Value.int .u8 (F (0 + 0 + 14)), Value.int .u8 (F (0 + 0 + 15))] = [Value.int .u8 (ntA g0 0), Value.int .u8 (ntA g0 1), Value.int .u8 (ntA g0 2), Value.int .u8 (ntA g0 3), Value.int .u8 (ntA g0 4), Value.int .u8 (ntA g0 5), Value.int .u8 (ntA g0 6), Value.int .u8 (ntA g0 7), Value.int .u8 (ntA g0 8), Value.int .u8 (ntA g0 9), Value.int .u8 (ntA g0 10), Value.int .u8 (ntA g0 11), Value.int .u8 (ntA g0 12), Value.int .u8 (ntA g0 13), Value.int .u8 (ntA g0 14), Value.int .u8 (ntA g0 15)]
  rw [show F (0 + 0 + 0) = ntA g0 0 from e 0 (by omega), show F (0 + 0 + 1) = ntA g0 1 from e 1 (by omega), show F (0 + 0 + 2) = ntA g0 2 from e 2 (by omega), show F (0 + 0 + 3) = ntA g0 3 from e 3 (by omega), show F (0 + 0 + 4) = ntA g0 4 from e 4 (by omega), show F (0 + 0 + 5) = ntA g0 5 from e 5 (by omega), show F (0 + 0 + 6) = ntA g0 6 from e 6 (by omega), show F (0 + 0 + 7) = ntA g0 7 from e 7 (by omega), show F (0 + 0 + 8) = ntA g0 8 from e 8 (by omega), show F (0 + 0 + 9) = ntA g0 9 from e 9 (by omega), show F (0 + 0 + 10) = ntA g0 10 from e 10 (by omega), show F (0 + 0 + 11) = ntA g0 11 from e 11 (by omega), show F (0 + 0 + 12) = ntA g0 12 from e 12 (by omega), show F (0 + 0 + 13) = ntA g0 13 from e 13 (by omega), show F (0 + 0 + 14) = ntA g0 14 from e 14 (by omega), show F (0 + 0 + 15) = ntA g0 15 from e 15 (by omega)]
theorem NF.note1 {g0 g1 : Int} {F : Nat → Int} (h : NF g0 g1 (16 * 2 + 0) F) : ((byS F 0 32).drop 16).take 16 = noteE (ntA g1) := by
  have e : ∀ q, q < 16 → F (16 + q) = ntA g1 q := fun q hq => by
    rw [h (16 + q)]
    unfold ntA
    have e1 : (16 + q) % 16 = q := by omega
    rw [if_neg (show ¬ 16 + q < 16 by omega), e1]
    by_cases c : q < 8
    · rw [if_pos ⟨by omega, c⟩, if_pos c]
    · rw [if_neg (by omega), if_neg c]
  rw [byS_sub F 0 32 16 16 (by omega)]
  show [Value.int .u8 (F (0 + 16 + 0)), Value.int .u8 (F (0 + 16 + 1)), Value.int .u8 (F (0 + 16 + 2)), Value.int .u8 (F (0 + 16 + 3)), Value.int .u8 (F (0 + 16 + 4)), Value.int .u8 (F (0 + 16 + 5)), Value.int .u8 (F (0 + 16 + 6)), Value.int .u8 (F (0 + 16 + 7)), Value.int .u8 (F (0 + 16 + 8)), Value.int .u8 (F (0 + 16 + 9)), Value.int .u8 (F (0 + 16 + 10)), Value.int .u8 (F (0 + 16 + 11)), Value.int .u8 (F (0 + 16 + 12)), Value.int .u8 (F (0 + 16 + 13)), Value.int .u8 (F (0 + 16 + 14)), Value.int .u8 (F (0 + 16 + 15))] = [Value.int .u8 (ntA g1 0), Value.int .u8 (ntA g1 1), Value.int .u8 (ntA g1 2), Value.int .u8 (ntA g1 3), Value.int .u8 (ntA g1 4), Value.int .u8 (ntA g1 5), Value.int .u8 (ntA g1 6), Value.int .u8 (ntA g1 7), Value.int .u8 (ntA g1 8), Value.int .u8 (ntA g1 9), Value.int .u8 (ntA g1 10), Value.int .u8 (ntA g1 11), Value.int .u8 (ntA g1 12), Value.int .u8 (ntA g1 13), Value.int .u8 (ntA g1 14), Value.int .u8 (ntA g1 15)]
  rw [show F (0 + 16 + 0) = ntA g1 0 from e 0 (by omega), show F (0 + 16 + 1) = ntA g1 1 from e 1 (by omega), show F (0 + 16 + 2) = ntA g1 2 from e 2 (by omega), show F (0 + 16 + 3) = ntA g1 3 from e 3 (by omega), show F (0 + 16 + 4) = ntA g1 4 from e 4 (by omega), show F (0 + 16 + 5) = ntA g1 5 from e 5 (by omega), show F (0 + 16 + 6) = ntA g1 6 from e 6 (by omega), show F (0 + 16 + 7) = ntA g1 7 from e 7 (by omega), show F (0 + 16 + 8) = ntA g1 8 from e 8 (by omega), show F (0 + 16 + 9) = ntA g1 9 from e 9 (by omega), show F (0 + 16 + 10) = ntA g1 10 from e 10 (by omega), show F (0 + 16 + 11) = ntA g1 11 from e 11 (by omega), show F (0 + 16 + 12) = ntA g1 12 from e 12 (by omega), show F (0 + 16 + 13) = ntA g1 13 from e 13 (by omega), show F (0 + 16 + 14) = ntA g1 14 from e 14 (by omega), show F (0 + 16 + 15) = ntA g1 15 from e 15 (by omega)]
theorem ntA_K {x : Int} {n : Nat} (hn : n ≤ 100000) : HdK ⟨1, (n : Int), ntA x⟩ := ⟨⟨by dsimp only; omega, by dsimp only; omega⟩, ⟨by dsimp only; omega, by dsimp only; omega⟩, ntA_RB x, ntA_hi x⟩
end Go.Proofs.YtgmghkakiocmjaaDoor
namespace Go.Proofs.YtgmghkakiocmjaaDoor
open Go Go.RowKit
set_option linter.unusedVariables false
set_option linter.unusedSimpArgs false
set_option maxRecDepth 100000 in
set_option maxHeartbeats 4000000 in
theorem sopens_law (pa : Option Addr) (la ca : Nat) (xs : List Int) (pb : Option Addr) (lb cb : Nat) (ys : List Int) (g0 g1 : Int) (hu0 : 0 ≤ g0 ∧ g0 ≤ 18446744073709551615) (hu1 : 0 ≤ g1 ∧ g1 ≤ 18446744073709551615) (w : World) (hxa : Tx w pa la ca xs) (hxb : Tx w pb lb cb ys) :
    CA Tryd.prog 4 [.slice pa la ca, .slice pb lb cb, .agg #[.int .u64 g0, .int .u64 g1]] w (RV (.bool true) w) := by
  have hma := hxa.m
  have hmb := hxb.m
  have hca := hxa.c
  have hcb := hxb.c
  by_cases ha : 300 < la
  · refine enter (L := []) (X := []) Tryd.func4 rfl Tryd.ntmps4 rfl rfl (Has.nil _) ?_
    repeat (first | refine c_seq ?_ | (refine c_region (id := 0) ?_; refine se ?_; refine eb ?_; refine sq qa ?_; refine l_nil ?_) | (refine c_region (id := 1) ?_; refine se ?_; refine ecp rfl rfl (fun w hC hm hL => sawk_c w) ?_; intro m' hm'; refine sq qnt ?_; refine sq qm ?_; (first | refine sk ?_ | refine skv ?_ | (refine st_want rfl rfl ?_; refine sq qm ?_)); (first | refine sk ?_ | refine skv ?_ | (refine st_want rfl rfl ?_; refine sq qls ?_)); (first | refine sk ?_ | refine skv ?_ | (refine st_want rfl rfl ?_; refine sq (by first | exact dgtrt | exact dgtrf) ?_)); refine sq (by first | exact qpt | exact qpf) ?_; refine sq qm ?_; (first | refine sk ?_ | refine skv ?_ | (refine st_want rfl rfl ?_; refine sq qm ?_)); (first | refine sk ?_ | refine skv ?_ | (refine st_want rfl rfl ?_; refine sq qls ?_)); (first | refine sk ?_ | refine skv ?_ | (refine st_want rfl rfl ?_; refine sq (by first | exact dgtrt | exact dgtrf) ?_)); refine sq (by first | exact qpt | exact qpf) ?_; refine l_nil ?_) | (refine c_region (id := 2) ?_; refine se ?_; refine ecp rfl rfl (fun w hC hm hL => sawk_c w) ?_; intro m' hm'; refine sq qa ?_; refine l_nil ?_) | refine n_then ?_ | refine c_block ?_ | refine c_skip ?_ | refine n_block ?_ | refine c_exit ?_ | refine n_then_exit ?_ | refine n_block_eq ?_ | refine n_block_ne rfl ?_ | refine c_ret ?_ | refine n_then_ret ?_ | refine n_block_ret ?_ | refine c_cond_t rfl ?_ | refine c_cond_f rfl ?_ | refine r_succ ?_ )
    (first | apply r_ret () | apply r_end ()); exact rfl; exact rfl; exact (.tmp rfl .nil); exact rfl; exact (List.nil_sublist _); exact new_nil; exact trivial
  by_cases hb : 300 < lb
  · refine enter (L := []) (X := []) Tryd.func4 rfl Tryd.ntmps4 rfl rfl (Has.nil _) ?_
    repeat (first | refine c_seq ?_ | (refine c_region (id := 0) ?_; refine se ?_; refine eb ?_; refine sq qa ?_; refine l_nil ?_) | (refine c_region (id := 1) ?_; refine se ?_; refine ecp rfl rfl (fun w hC hm hL => sawk_c w) ?_; intro m' hm'; refine sq qnt ?_; refine sq qm ?_; (first | refine sk ?_ | refine skv ?_ | (refine st_want rfl rfl ?_; refine sq qm ?_)); (first | refine sk ?_ | refine skv ?_ | (refine st_want rfl rfl ?_; refine sq qls ?_)); (first | refine sk ?_ | refine skv ?_ | (refine st_want rfl rfl ?_; refine sq (by first | exact dgtrt | exact dgtrf) ?_)); refine sq (by first | exact qpt | exact qpf) ?_; refine sq qm ?_; (first | refine sk ?_ | refine skv ?_ | (refine st_want rfl rfl ?_; refine sq qm ?_)); (first | refine sk ?_ | refine skv ?_ | (refine st_want rfl rfl ?_; refine sq qls ?_)); (first | refine sk ?_ | refine skv ?_ | (refine st_want rfl rfl ?_; refine sq (by first | exact dgtrt | exact dgtrf) ?_)); refine sq (by first | exact qpt | exact qpf) ?_; refine l_nil ?_) | (refine c_region (id := 2) ?_; refine se ?_; refine ecp rfl rfl (fun w hC hm hL => sawk_c w) ?_; intro m' hm'; refine sq qa ?_; refine l_nil ?_) | refine n_then ?_ | refine c_block ?_ | refine c_skip ?_ | refine n_block ?_ | refine c_exit ?_ | refine n_then_exit ?_ | refine n_block_eq ?_ | refine n_block_ne rfl ?_ | refine c_ret ?_ | refine n_then_ret ?_ | refine n_block_ret ?_ | refine c_cond_t rfl ?_ | refine c_cond_f rfl ?_ | refine r_succ ?_ )
    (first | apply r_ret () | apply r_end ()); exact rfl; exact rfl; exact (.tmp rfl .nil); exact rfl; exact (List.nil_sublist _); exact new_nil; exact trivial
  have hD0 : (Dk.new 20).secs.length = 20 := (Dk.OK.new 20 (by decide)).len
  have hlz0 := LogAt.new 20 0 10
  have hlz1 := LogAt.new 20 10 10
  obtain ⟨h1, hh1⟩ : ∃ h1 : Hd, h1 = ⟨1, (la : Nat), ntA g0⟩ := ⟨_, rfl⟩
  obtain ⟨h2, hh2⟩ : ∃ h2 : Hd, h2 = ⟨1, (lb : Nat), ntA g1⟩ := ⟨_, rfl⟩
  have hk1 : HdK h1 := by rw [hh1]; exact ntA_K (by omega)
  have hk2 : HdK h2 := by rw [hh2]; exact ntA_K (by omega)
  have hnx : (([] : List Int) ++ xs).length = la := hxa.l
  have hny : (([] : List Int) ++ ys).length = lb := hxb.l
  obtain ⟨r1, hr1⟩ : ∃ r, r = appR 0 1 h1 [] xs (Dk.new 20) := ⟨_, rfl⟩
  obtain ⟨hrt1, hl1, hfr1, hrg1, hm1', hln1, _⟩ := (LogAt.new 20 0 10).append (h' := h1) (ys := xs) (by rw [hD0]; decide) (by omega) ⟨rfl, rfl⟩ (RG.new 20) hk1 (by rw [hh1]; rfl) (by decide) (by rw [hh1, hnx]) (by omega) (by rw [List.nil_append]; exact hxa.r) 1 (by rw [hh1]; rfl)
  have hat1 := fun j hj => appR_at (fr := 0) (p := 1) (h' := h1) (bs := []) (ys := xs) (D := (Dk.new 20)) ⟨rfl, rfl⟩ (RG.new 20) hk1 (by omega) (by rw [List.nil_append]; exact hxa.r) (by rw [hD0]; omega) j hj
  have hokr : (appR 0 1 h1 [] xs (Dk.new 20)).2.OK 20 := appR_OK (Dk.OK.new 20 (by decide)) (by omega) (by omega)
  have hlb1 : LogAt (appR 0 1 h1 [] xs (Dk.new 20)).2 10 10 hdZ [] := hlz1.cong (by omega) (fun j hj => hat1 _ (by omega))
  rw [← hr1] at hrt1 hl1 hfr1 hrg1 hokr hlb1
  obtain ⟨r2, hr2⟩ : ∃ r, r = appR 10 1 h2 [] ys r1.2 := ⟨_, rfl⟩
  obtain ⟨hrt2, hl2, hfr2, hrg2, hm2', hln2, _⟩ := hlb1.append (h' := h2) (ys := ys) (by rw [hokr.len]; decide) (by omega) hfr1 hrg1 hk2 (by rw [hh2]; rfl) (by decide) (by rw [hh2, hny]) (by omega) (by rw [List.nil_append]; exact hxb.r) 1 (by rw [hh2]; rfl)
  have hat2 := fun j hj => appR_at (fr := 10) (p := 1) (h' := h2) (bs := []) (ys := ys) (D := r1.2) hfr1 hrg1 hk2 (by omega) (by rw [List.nil_append]; exact hxb.r) (by rw [hokr.len]; omega) j hj
  have hokr2 : (appR 10 1 h2 [] ys r1.2).2.OK 20 := appR_OK hokr (by omega) (by omega)
  replace hl1 : LogAt (appR 10 1 h2 [] ys r1.2).2 0 10 h1 ([] ++ xs) := hl1.cong (by omega) (fun j hj => hat2 _ (by omega))
  rw [← hr2] at hrt2 hl2 hfr2 hrg2 hokr2 hl1
  clear hat1 hat2 hm1' hm2' hln1 hln2
  refine enter (L := []) (X := []) Tryd.func4 rfl Tryd.ntmps4 rfl rfl (Has.nil _) ?_
  repeat (first | refine c_seq ?_ | (refine c_region (id := 0) ?_; refine se ?_; refine eb ?_; refine sq qa ?_; refine l_nil ?_) | refine n_then ?_ | refine c_block ?_ | refine c_skip ?_ | refine n_block ?_ | refine c_exit ?_ | refine n_then_exit ?_ | refine n_block_eq ?_ | refine n_block_ne rfl ?_ | refine c_ret ?_ | refine n_then_ret ?_ | refine n_block_ret ?_ | refine c_cond_t rfl ?_ | refine c_cond_f rfl ?_ | refine r_succ ?_ )
  obtain ⟨g5, hg5⟩ : ∃ g, g = w.heap.size := ⟨_, rfl⟩
  rw [← hg5]
  repeat (first | refine c_seq ?_ | (refine c_region (id := 1) ?_; refine se ?_; refine ecp rfl rfl (fun w hC hm hL => sawk_c w) ?_; intro m' hm'; refine sq qnt ?_; refine sq qm ?_; (first | refine sk ?_ | refine skv ?_ | (refine st_want rfl rfl ?_; refine sq qm ?_)); (first | refine sk ?_ | refine skv ?_ | (refine st_want rfl rfl ?_; refine sq qls ?_)); (first | refine sk ?_ | refine skv ?_ | (refine st_want rfl rfl ?_; refine sq (by first | exact dgtrt | exact dgtrf) ?_)); refine sq (by first | exact qpt | exact qpf) ?_; refine sq qm ?_; (first | refine sk ?_ | refine skv ?_ | (refine st_want rfl rfl ?_; refine sq qm ?_)); (first | refine sk ?_ | refine skv ?_ | (refine st_want rfl rfl ?_; refine sq qls ?_)); (first | refine sk ?_ | refine skv ?_ | (refine st_want rfl rfl ?_; refine sq (by first | exact dgtrt | exact dgtrf) ?_)); refine sq (by first | exact qpt | exact qpf) ?_; refine l_nil ?_) | (refine c_region (id := 3) ?_; refine se ?_; refine ecl rfl rfl (fun w hC hm hL => by exact newd_c 20 (by omega) w) ?_; intro z1 m1 _ hn1 hm1; obtain ⟨gd1, gw1, gm1⟩ := z1; have hg1 : w.heap.size ≤ gd1 ∧ w.heap.size ≤ gw1 ∧ w.heap.size ≤ gm1 := ⟨(by have h9 := hn1 gd1 (by simp [feetD]); omega), (by have h9 := hn1 gw1 (by simp [feetD]); omega), (by have h9 := hn1 gm1 (by simp [feetD]); omega)⟩; clear hn1; dsimp only; refine chg (L' := DskL gd1 gw1 gm1 (Dk.new 20) ++ [.blk g5 (.cells #[.int .u64 g0, .int .u64 g1] 37 (0, 0))]) (by rfl) ?_; refine sq qa ?_; refine l_nil ?_) | (refine c_region (id := 4) ?_; refine sq qm ?_; refine se ?_; refine ecl rfl rfl (fun w hC hm hL => by exact open_c gd1 gw1 gm1 0 10 ⟨by omega, by omega⟩ (fun i => (Dk.new 20).at (0 + i)) (Dk.new 20) rfl (by rw [hD0]; decide) (by rw [hD0]; decide) (fun i hi => Dk.at_get (by omega)) (fun i _ => (RG.new 20).s _) 0 rfl w (hL.sub (by (repeat (first | exact List.nil_sublist _ | exact List.Sublist.slnil | apply List.Sublist.cons_cons | exact List.Sublist.refl _ | apply List.Sublist.cons))))) ?_; intro z2 m2 hz2 hn2 hm2; obtain ⟨gl2, bl2, cl2⟩ := z2; have hq2 : w.heap.size ≤ gl2 := (by have := hn2 gl2 (by simp [feet, Chunk.foot]); omega); have hb2 : ∀ g, bl2 = some ⟨g, 0, none⟩ → w.heap.size ≤ g := (fun g e => by have := hn2 g (by simp [feet, Chunk.foot, e]); omega); dsimp only at hz2 ⊢; rw [hlz0.st, show rmL (fun i => (Dk.new 20).at (0 + i)) 0 = [] from rfl]; have hXA2 : ∀ g ∈ feet (LogL gl2 gd1 gw1 gm1 0 ((10 - 2) * 64) hdZ bl2 cl2 [] (Dk.new 20)), w.heap.size ≤ g := (fun g hg => by simp only [feet, List.flatMap_cons, List.mem_append] at hg; rcases hg with h9 | h9; exact (bk_new (X := []) hz2 hb2 g h9).elim (fun h => by simp at h) id; (simp [Chunk.foot] at h9; omega)); refine sq qm ?_; refine sq qe ?_; refine sq qe ?_; refine sq qa ?_; refine sq qa ?_; refine l_nil ?_) | (refine c_region (id := 5) ?_; refine sq qm ?_; refine se ?_; refine ecl rfl rfl (fun w hC hm hL => by exact open_c gd1 gw1 gm1 10 10 ⟨by omega, by omega⟩ (fun i => (Dk.new 20).at (10 + i)) (Dk.new 20) rfl (by rw [hD0]; decide) (by rw [hD0]; decide) (fun i hi => Dk.at_get (by omega)) (fun i _ => (RG.new 20).s _) 0 rfl w (hL.sub (by (repeat (first | exact List.nil_sublist _ | exact List.Sublist.slnil | apply List.Sublist.cons_cons | exact List.Sublist.refl _ | apply List.Sublist.cons))))) ?_; intro z3 m3 hz3 hn3 hm3; obtain ⟨gl3, bl3, cl3⟩ := z3; have hq3 : w.heap.size ≤ gl3 := (by have := hn3 gl3 (by simp [feet, Chunk.foot]); omega); have hb3 : ∀ g, bl3 = some ⟨g, 0, none⟩ → w.heap.size ≤ g := (fun g e => by have := hn3 g (by simp [feet, Chunk.foot, e]); omega); dsimp only at hz3 ⊢; rw [hlz1.st, show rmL (fun i => (Dk.new 20).at (10 + i)) 0 = [] from rfl]; have hXA3 : ∀ D9 g, g ∈ feet (LogL gl3 gd1 gw1 gm1 10 ((10 - 2) * 64) hdZ bl3 cl3 [] D9) → w.heap.size ≤ g := (fun D9 g hg => by simp only [feet, List.flatMap_cons, List.mem_append] at hg; rcases hg with h9 | h9; exact (bk_new (X := []) hz3 hb3 g h9).elim (fun h => by simp at h) id; (simp [Chunk.foot] at h9; omega)); refine sq qm ?_; refine sq qe ?_; refine sq qe ?_; refine sq qa ?_; refine sq qa ?_; refine l_nil ?_) | refine n_then ?_ | refine c_block ?_ | refine c_skip ?_ | refine n_block ?_ | refine c_exit ?_ | refine n_then_exit ?_ | refine n_block_eq ?_ | refine n_block_ne rfl ?_ | refine c_ret ?_ | refine n_then_ret ?_ | refine n_block_ret ?_ | refine c_cond_t rfl ?_ | refine c_cond_f rfl ?_ | refine r_succ ?_ )
  obtain ⟨g7, hg7⟩ : ∃ g, g = m3 := ⟨_, rfl⟩
  repeat (first | refine c_seq ?_ | (refine c_region (id := 6) ?_; refine se ?_; refine ea ?_; refine l_nil ?_) | refine n_then ?_ | refine c_block ?_ | refine c_skip ?_ | refine n_block ?_ | refine c_exit ?_ | refine n_then_exit ?_ | refine n_block_eq ?_ | refine n_block_ne rfl ?_ | refine c_ret ?_ | refine n_then_ret ?_ | refine n_block_ret ?_ | refine c_cond_t rfl ?_ | refine c_cond_f rfl ?_ | refine r_succ ?_ )
  rw [← hg7]
  refine chg (L' := .blk g7 (.cells (byS (fun _ => 0) 0 32).toArray 42 (0, 0)) :: ([.sl bl3 cl3 5 1 ((([] : List Int)).map (Value.int .u8)), LgB gl3 gd1 10 ((10 - 2) * 64) hdZ (.slice bl3 0 cl3) false] ++ [.sl bl2 cl2 5 1 ((([] : List Int)).map (Value.int .u8)), LgB gl2 gd1 0 ((10 - 2) * 64) hdZ (.slice bl2 0 cl2) false] ++ DskL gd1 gw1 gm1 (Dk.new 20) ++ [.blk g5 (.cells #[.int .u64 g0, .int .u64 g1] 37 (0, 0))])) (by rfl) ?_
  repeat (first | refine c_seq ?_ | (refine c_region (id := 7) ?_; refine sq qa ?_; refine l_nil ?_) | refine n_then ?_ | refine c_block ?_ | refine c_skip ?_ | refine n_block ?_ | refine c_exit ?_ | refine n_then_exit ?_ | refine n_block_eq ?_ | refine n_block_ne rfl ?_ | refine c_ret ?_ | refine n_then_ret ?_ | refine n_block_ret ?_ | refine c_cond_t rfl ?_ | refine c_cond_f rfl ?_ | refine r_succ ?_ )
  refine c_loop (γ := Nat × (Nat → Int)) (fun z => [(13, .int .i64 z.1), (12, .pointer (some ⟨g7, 0, none⟩)), (10, .pointer (some ⟨gl3, 0, none⟩)), (11, .int .i64 0), (8, .pointer (some ⟨gl2, 0, none⟩)), (9, .int .i64 0), (7, .pointer (some ⟨gd1, 0, none⟩)), (6, .bool false), (5, .pointer (some ⟨g5, 0, none⟩)), (0, .slice pa la ca), (1, .slice pb lb cb)]) (fun _ => g7 + 1) (fun z => .blk g7 (.cells (byS z.2 0 32).toArray 42 (0, 0)) :: ([.sl bl3 cl3 5 1 ((([] : List Int)).map (Value.int .u8)), LgB gl3 gd1 10 ((10 - 2) * 64) hdZ (.slice bl3 0 cl3) false] ++ [.sl bl2 cl2 5 1 ((([] : List Int)).map (Value.int .u8)), LgB gl2 gd1 0 ((10 - 2) * 64) hdZ (.slice bl2 0 cl2) false] ++ DskL gd1 gw1 gm1 (Dk.new 20) ++ [.blk g5 (.cells #[.int .u64 g0, .int .u64 g1] 37 (0, 0))])) (fun z => z.1 ≤ 2 ∧ NF g0 g1 (16 * z.1 + 0) z.2) (fun z => 2 - z.1) ⟨0, fun _ => 0⟩ ⟨by simp, NF.zero g0 g1⟩ ⟨rfl, rfl, rfl, rfl, rfl, rfl, rfl, rfl, rfl, rfl, rfl, trivial⟩ rfl (List.Sublist.refl _) ?_
  rintro ⟨i, F⟩ ⟨hi, hF⟩
  dsimp only at hi hF ⊢
  by_cases h8 : i < 2
  · repeat (first | refine c_seq ?_ | (refine c_region (id := 8) ?_; refine sq qm ?_; refine sq (by first | exact dlsst | exact dlssf) ?_; refine l_nil ?_) | (refine c_region (id := 10) ?_; refine sq qa ?_; refine l_nil ?_) | refine n_then ?_ | refine c_block ?_ | refine c_skip ?_ | refine n_block ?_ | refine c_exit ?_ | refine n_then_exit ?_ | refine n_block_eq ?_ | refine n_block_ne rfl ?_ | refine c_ret ?_ | refine n_then_ret ?_ | refine n_block_ret ?_ | refine c_cond_t rfl ?_ | refine c_cond_f rfl ?_ | refine r_succ ?_ )
    refine c_loop (γ := Nat × (Nat → Int)) (fun z => (14, .int .i64 z.1) :: [(13, .int .i64 i), (12, .pointer (some ⟨g7, 0, none⟩)), (10, .pointer (some ⟨gl3, 0, none⟩)), (11, .int .i64 0), (8, .pointer (some ⟨gl2, 0, none⟩)), (9, .int .i64 0), (7, .pointer (some ⟨gd1, 0, none⟩)), (6, .bool false), (5, .pointer (some ⟨g5, 0, none⟩)), (0, .slice pa la ca), (1, .slice pb lb cb)]) (fun _ => g7 + 1) (fun z => .blk g7 (.cells (byS z.2 0 32).toArray 42 (0, 0)) :: ([.sl bl3 cl3 5 1 ((([] : List Int)).map (Value.int .u8)), LgB gl3 gd1 10 ((10 - 2) * 64) hdZ (.slice bl3 0 cl3) false] ++ [.sl bl2 cl2 5 1 ((([] : List Int)).map (Value.int .u8)), LgB gl2 gd1 0 ((10 - 2) * 64) hdZ (.slice bl2 0 cl2) false] ++ DskL gd1 gw1 gm1 (Dk.new 20) ++ [.blk g5 (.cells #[.int .u64 g0, .int .u64 g1] 37 (0, 0))])) (fun z => z.1 ≤ 8 ∧ NF g0 g1 (16 * i + z.1) z.2) (fun z => 8 - z.1) ⟨0, F⟩ ⟨by simp, hF⟩ ⟨rfl, rfl, rfl, rfl, rfl, rfl, rfl, rfl, rfl, rfl, rfl, rfl, trivial⟩ rfl (List.Sublist.refl _) ?_
    clear hF F
    rintro ⟨j, F⟩ ⟨hj, hF⟩
    dsimp only at hj hF ⊢
    by_cases hj8 : j < 8
    · repeat (first | refine c_seq ?_ | (refine c_region (id := 11) ?_; refine sq qm ?_; refine sq (by first | exact dlsst | exact dlssf) ?_; refine l_nil ?_) | (refine c_region (id := 12) ?_; refine sq qm ?_; refine sq qadd64 ?_; refine sq qa ?_; refine l_nil ?_) | (refine x_region (id := 13) (some 13) [(0, .n), (1, .n), (2, .n), (3, .n), (4, .q), (5, .n), (6, .n), (7, .n), (8, .n), (9, .n), (10, .n), (11, .n), (12, .n), (13, .b)] _ mixed (by kernel_rfl) (List.Sublist.refl _) ?_; refine xn rfl qm ?_; refine xn rfl qm ?_; refine xn rfl qm ?_; refine xn rfl (by exact qia (o' := i) (ho := by omega)) ?_; refine xq rfl (by exact ql (v := .int .u64 (if i = 0 then g0 else g1)) (hr := Rd.blkn (by (repeat (first | exact List.Mem.head _ | apply List.Mem.tail))) (by rcases (show i = 0 ∨ i = 1 by omega) with rfl | rfl <;> rfl))) ?_; refine xn rfl qm ?_; refine xn rfl qmul64 ?_; refine xn rfl qsub64 ?_; refine xn rfl (by exact Qt.cast (v' := .int .u64 (56 - 8 * (j : Int))) (congrArg (Value.int .u64) (by omega)) (q_convU rfl)) ?_; refine xn rfl (by exact Qt.cast (v' := .int .u64 ((if i = 0 then g0 else g1) / 2 ^ (56 - 8 * j))) (congrArg (Value.int .u64) (by rw [show ((56 - 8 * (j : Int)).toNat) = 56 - 8 * j by omega])) (q_shr rfl rfl (by omega) (by show _ ≤ 64; omega))) ?_; refine xn rfl qc8 ?_; refine xn rfl (by exact qia (o' := 16 * i) (ho := by omega)) ?_; refine xn rfl (by exact qia (o' := 16 * i + j) (ho := by omega)) ?_; refine x_b rfl ?_; refine es2 ?_ (ho := rfl) (hp := by rw [byS_upd F 32 (16 * i + j) (by omega)]; (repeat (first | exact Pl.here | apply Pl.there))) (hoff := by rw [byS_sz]; omega) (hg := .inr (by omega)); refine x_k (List.nil_sublist _) ?_; refine x_nil ?_) | refine n_then ?_ | refine c_block ?_ | refine c_skip ?_ | refine n_block ?_ | refine c_exit ?_ | refine n_then_exit ?_ | refine n_block_eq ?_ | refine n_block_ne rfl ?_ | refine c_ret ?_ | refine n_then_ret ?_ | refine n_block_ret ?_ | refine c_cond_t rfl ?_ | refine c_cond_f rfl ?_ | refine r_succ ?_ )
      refine c_round ⟨j + 1, updF F (16 * i + j) _⟩ ⟨by dsimp only; omega, hF.step h8 hj8 (by first | rfl | (unfold gB; rfl))⟩ (by dsimp only; omega) ⟨rfl, rfl, rfl, rfl, rfl, rfl, rfl, rfl, rfl, rfl, rfl, rfl, trivial⟩ (by rfl) (by exact (by (repeat (first | exact List.nil_sublist _ | exact List.Sublist.slnil | apply List.Sublist.cons_cons | exact List.Sublist.refl _ | apply List.Sublist.cons))))
    · obtain rfl : j = 8 := by omega
      repeat (first | refine c_seq ?_ | (refine c_region (id := 9) ?_; refine sq qm ?_; refine sq qadd64 ?_; refine sq qa ?_; refine l_nil ?_) | (refine c_region (id := 11) ?_; refine sq qm ?_; refine sq (by first | exact dlsst | exact dlssf) ?_; refine l_nil ?_) | refine n_then ?_ | refine c_block ?_ | refine c_skip ?_ | refine n_block ?_ | refine c_exit ?_ | refine n_then_exit ?_ | refine n_block_eq ?_ | refine n_block_ne rfl ?_ | refine c_ret ?_ | refine n_then_ret ?_ | refine n_block_ret ?_ | refine c_cond_t rfl ?_ | refine c_cond_f rfl ?_ | refine r_succ ?_ )
      refine c_round ⟨i + 1, F⟩ ⟨by dsimp only; omega, hF.row⟩ (by dsimp only; omega) ⟨rfl, rfl, rfl, rfl, rfl, rfl, rfl, rfl, rfl, rfl, rfl, trivial⟩ (by rfl) (by exact (by (repeat (first | exact List.nil_sublist _ | exact List.Sublist.slnil | apply List.Sublist.cons_cons | exact List.Sublist.refl _ | apply List.Sublist.cons))))
  obtain rfl : i = 2 := by omega
  have hnt1 : noteE (ntA g0) = noteE h1.nt := by rw [hh1]
  have hnt2 : noteE (ntA g1) = noteE h2.nt := by rw [hh2]
  repeat (first | refine c_seq ?_ | (refine c_region (id := 8) ?_; refine sq qm ?_; refine sq (by first | exact dlsst | exact dlssf) ?_; refine l_nil ?_) | (refine c_region (id := 14) ?_; refine sq qm ?_; refine sq (by first | exact dneqt | exact dneqf) ?_; refine sq qm ?_; (first | refine sk ?_ | refine skv ?_ | (refine st_want rfl rfl ?_; refine sq qm ?_)); (first | refine sk ?_ | refine skv ?_ | (refine st_want rfl rfl ?_; refine sq (by first | exact dneqt | exact dneqf) ?_)); refine sq (by first | exact qpt | exact qpf) ?_; refine sq qm ?_; (first | refine sk ?_ | refine skv ?_ | (refine st_want rfl rfl ?_; refine sq qm ?_)); (first | refine sk ?_ | refine skv ?_ | (refine st_want rfl rfl ?_; refine sq qm ?_)); (first | refine sk ?_ | refine skv ?_ | (refine st_want rfl rfl ?_; refine sq qia ?_)); (first | refine sk ?_ | refine skv ?_ | (refine st_want rfl rfl ?_; refine sq (by exact qlr (vs := noteE h1.nt) (hr := RdN.blk (by (repeat (first | exact List.Mem.head _ | apply List.Mem.tail))) (by rw [← hnt1]; exact hF.note0)) (hl := by rfl)) ?_)); (first | refine sk ?_ | refine skv ?_ | (refine st_want rfl rfl ?_; refine se ?_; refine e_callX (LogL gl2 gd1 gw1 gm1 0 ((10 - 2) * 64) hdZ bl2 cl2 [] (Dk.new 20)) _ rfl rfl (by kernel_rfl) rfl (by (repeat (first | exact Sp.nil | (apply Sp.cons; focus (repeat (first | exact Rm.here | apply Rm.there)))))) (fun w hC hm hA hL hap => by have h9 := append_y gl2 gd1 gw1 gm1 0 ((10 - 2) * 64) hdZ h1 bl2 cl2 [] (Dk.new 20) 20 (Dk.OK.new 20 (by decide)) (os_log hz2.1 hz2.2.1 hz2.2.2) (by simp) (by omega) (by omega) ⟨by decide, by decide⟩ 1 (by rw [hh1]; rfl) (by rw [hh1]; rfl) pa la ca xs (by rw [hh1, hxa.l.symm]; simp) hxa.l (by simp; omega) (hxa.s.ch0 hC) (fun g o e hl hg => by have h5 := hxa.s.lt g o e (by rw [hxa.l]; exact hl); have h6 := hXA2 g hg; omega) r1 hr1 hrt1 hA; exact h9) (fun g hg => .inr (hXA2 g hg)) (fun _ => rfl) ?_; intro z5 m5 hz5 hn5 hm5; obtain ⟨b5, cap5⟩ := z5; dsimp only at hz5 ⊢)); (first | refine sk ?_ | refine skv ?_ | (refine st_want rfl rfl ?_; refine sq (by first | exact dneqt | exact dneqf) ?_)); refine sq (by first | exact qpt | exact qpf) ?_; refine sq qm ?_; (first | refine sk ?_ | refine skv ?_ | (refine st_want rfl rfl ?_; refine sq qm ?_)); (first | refine sk ?_ | refine skv ?_ | (refine st_want rfl rfl ?_; refine sq qm ?_)); (first | refine sk ?_ | refine skv ?_ | (refine st_want rfl rfl ?_; refine sq qia ?_)); (first | refine sk ?_ | refine skv ?_ | (refine st_want rfl rfl ?_; refine sq (by exact qlr (vs := noteE h2.nt) (hr := RdN.blk (by (repeat (first | exact List.Mem.head _ | apply List.Mem.tail))) (by rw [← hnt2]; exact hF.note1)) (hl := by rfl)) ?_)); (first | refine sk ?_ | refine skv ?_ | (refine st_want rfl rfl ?_; refine se ?_; refine e_callX (LogL gl3 gd1 gw1 gm1 10 ((10 - 2) * 64) hdZ bl3 cl3 [] r1.2) _ rfl rfl (by kernel_rfl) rfl (by (repeat (first | exact Sp.nil | (apply Sp.cons; focus (repeat (first | exact Rm.here | apply Rm.there)))))) (fun w hC hm hA hL hap => by have h9 := append_y gl3 gd1 gw1 gm1 10 ((10 - 2) * 64) hdZ h2 bl3 cl3 [] r1.2 20 hokr (os_log hz3.1 hz3.2.1 hz3.2.2) (by simp) (by omega) (by omega) ⟨by decide, by decide⟩ 1 (by rw [hh2]; rfl) (by rw [hh2]; rfl) pb lb cb ys (by rw [hh2, hxb.l.symm]; simp) hxb.l (by simp; omega) (hxb.s.ch0 hC) (fun g o e hl hg => by have h5 := hxb.s.lt g o e (by rw [hxb.l]; exact hl); have h6 := hXA3 _ g hg; omega) r2 hr2 hrt2 hA; exact h9) (fun g hg => .inr (hXA3 _ g hg)) (fun _ => rfl) ?_; intro z6 m6 hz6 hn6 hm6; obtain ⟨b6, cap6⟩ := z6; dsimp only at hz6 ⊢)); (first | refine sk ?_ | refine skv ?_ | (refine st_want rfl rfl ?_; refine sq (by first | exact dneqt | exact dneqf) ?_)); refine sq (by first | exact qpt | exact qpf) ?_; refine l_nil ?_) | refine n_then ?_ | refine c_block ?_ | refine c_skip ?_ | refine n_block ?_ | refine c_exit ?_ | refine n_then_exit ?_ | refine n_block_eq ?_ | refine n_block_ne rfl ?_ | refine c_ret ?_ | refine n_then_ret ?_ | refine n_block_ret ?_ | refine c_cond_t rfl ?_ | refine c_cond_f rfl ?_ | refine r_succ ?_ )
  by_cases hge : g0 < g1
  · repeat (first | refine c_seq ?_ | (refine c_region (id := 16) ?_; refine sq qm ?_; refine se ?_; refine ecl rfl rfl (fun w hC hm hL => by exact sopen_1 gd1 gw1 gm1 r2.2 hfr2.go (by rw [hokr2.len]; decide) hrg2 (by rw [hokr2.len]; decide) 10 (by rw [hokr2.len]) h1 h2 ([] ++ xs) ([] ++ ys) hl1 hl2 hk1 hk2 (by unfold genH; rw [hh1, hh2]; dsimp only; rw [gen_of hu0, gen_of hu1]; exact hge) w (hL.sub (by (repeat (first | exact List.nil_sublist _ | exact List.Sublist.slnil | apply List.Sublist.cons_cons | exact List.Sublist.refl _ | apply List.Sublist.cons))))) ?_; intro z7 m7 hz7 hn7 hm7; obtain ⟨gs7, ⟨ga7, ba7, ca7⟩, ⟨gb7, bb7, cb7⟩⟩ := z7; have hqs7 : w.heap.size ≤ gs7 := (by have := hn7 gs7 (by simp [feet, Chunk.foot]); omega); have hqa7 : w.heap.size ≤ ga7 := (by have := hn7 ga7 (by simp [feet, Chunk.foot]); omega); have hqb7 : w.heap.size ≤ gb7 := (by have := hn7 gb7 (by simp [feet, Chunk.foot]); omega); have hba7 : ∀ g, ba7 = some ⟨g, 0, none⟩ → w.heap.size ≤ g := (fun g e => by have := hn7 g (by simp [feet, Chunk.foot, e]); omega); have hbb7 : ∀ g, bb7 = some ⟨g, 0, none⟩ → w.heap.size ≤ g := (fun g e => by have := hn7 g (by simp [feet, Chunk.foot, e]); omega); dsimp only at hz7 ⊢; refine sq qm ?_; refine sq qe ?_; refine sq qe ?_; refine sq qa ?_; refine sq qa ?_; refine l_nil ?_) | (refine c_region (id := 17) ?_; refine sq qm ?_; refine sq (by first | exact dneqt | exact dneqf) ?_; refine sq qm ?_; (first | refine sk ?_ | refine skv ?_ | (refine st_want rfl rfl ?_; refine sq qm ?_)); (first | refine sk ?_ | refine skv ?_ | (refine st_want rfl rfl ?_; refine sq (by exact q_eql_pnil rfl rfl (by kernel_rfl)) ?_)); refine sq (by first | exact qpt | exact qpf) ?_; refine l_nil ?_) | refine n_then ?_ | refine c_block ?_ | refine c_skip ?_ | refine n_block ?_ | refine c_exit ?_ | refine n_then_exit ?_ | refine n_block_eq ?_ | refine n_block_ne rfl ?_ | refine c_ret ?_ | refine n_then_ret ?_ | refine n_block_ret ?_ | refine c_cond_t rfl ?_ | refine c_cond_f rfl ?_ | refine r_succ ?_ )
    refine fgs (A := [.blk gs7 (.cells (stC true ga7 gb7) 55 (0, 0)), .sl ba7 ca7 5 1 ((([] ++ ys)).map (Value.int .u8)), LgB ga7 gd1 10 ((10 - 2) * 64) h2 (.slice ba7 ([] ++ ys).length ca7) false, .sl bb7 cb7 5 1 ((([] ++ xs)).map (Value.int .u8)), LgB gb7 gd1 0 ((10 - 2) * 64) h1 (.slice bb7 ([] ++ xs).length cb7) false, .blk g5 (.cells #[.int .u64 g0, .int .u64 g1] 37 (0, 0))]) (by (repeat (first | exact Sp.nil | (apply Sp.cons; focus (repeat (first | exact Rm.here | apply Rm.there)))))) ?_
    repeat (first | refine c_seq ?_ | (refine c_region (id := 19) ?_; refine sq qia ?_; refine sq ql ?_; refine sq qia ?_; refine sq ql ?_; refine sq (by first | exact dgtrt | exact dgtrf) ?_; refine l_nil ?_) | (refine x_region (id := 20) none [(0, .n), (2, .n), (1, .e), (3, .e), (4, .e), (5, .n), (6, .n), (8, .n), (9, .q), (7, .e), (10, .n), (11, .n), (12, .n)] _ mixed (by kernel_rfl) (List.Sublist.refl _) ?_; refine xn rfl qm ?_; refine xn rfl qm ?_; refine x_e rfl ?_; refine ecl rfl rfl (fun w hC hm hL => by exact records_c gs7 true ga7 ba7 ca7 h2 ([] ++ ys) 10 gb7 bb7 cb7 h1 ([] ++ xs) 0 ((10 - 2) * 64) gd1 (by omega) (by rw [List.nil_append, hxb.l]; omega) (by rw [List.nil_append]; exact hxb.r) hz7.1 w (Has.sel hL (by (repeat (first | exact Sel.nil | (refine Sel.cons (by (repeat (first | exact Rm.here | apply Rm.there))) ?_)))))) ?_; intro z8 m8 hz8 hn8 hm8; obtain ⟨b8, cap8, ps8⟩ := z8; dsimp only at hz8; clear hn8; refine prm (L' := .sl b8 cap8 30 1 (ps8.map CPrt.v) :: (.blk gs7 (.cells (stC true ga7 gb7) 55 (0, 0)) :: .sl ba7 ca7 5 1 ((([] ++ ys)).map (Value.int .u8)) :: LgB ga7 gd1 10 ((10 - 2) * 64) h2 (.slice ba7 ([] ++ ys).length ca7) false :: .sl bb7 cb7 5 1 ((([] ++ xs)).map (Value.int .u8)) :: LgB gb7 gd1 0 ((10 - 2) * 64) h1 (.slice bb7 ([] ++ xs).length cb7) false :: .blk g5 (.cells #[.int .u64 g0, .int .u64 g1] 37 (0, 0)) :: secC ps8)) (List.Perm.append_left [_] (List.perm_append_comm (l₁ := secC ps8) (l₂ := [.blk gs7 (.cells (stC true ga7 gb7) 55 (0, 0)), .sl ba7 ca7 5 1 ((([] ++ ys)).map (Value.int .u8)), LgB ga7 gd1 10 ((10 - 2) * 64) h2 (.slice ba7 ([] ++ ys).length ca7) false, .sl bb7 cb7 5 1 ((([] ++ xs)).map (Value.int .u8)), LgB gb7 gd1 0 ((10 - 2) * 64) h1 (.slice bb7 ([] ++ xs).length cb7) false, .blk g5 (.cells #[.int .u64 g0, .int .u64 g1] 37 (0, 0))]))) ?_; refine xk ?_; refine x_e rfl ?_; refine ecl rfl rfl (fun w hC hm hL => by exact rtaken_c pb lb cb ys hxb.l hxb.r hxb.c (by omega) hxb.m w (hxb.s.ch0 hC)) ?_; intro z9 m9 hz9 hn9 hm9; obtain ⟨b9, cap9, ps9⟩ := z9; dsimp only at hz9 ⊢; refine xk ?_; refine x_e rfl ?_; refine ecp rfl rfl (fun w hC hm hL => by exact rsame_os ps8 ps9 b8 b9 cap8 cap9 (by rw [hz8.2.1, hz9.2.1, List.nil_append]) (by have h7 := congrArg List.length hz8.2.1; have h6 := recs_len _ ([] ++ ys) (Nat.le_refl _); rw [List.length_map] at h7; rw [List.nil_append] at h6; have h5 := hxb.l; rw [List.nil_append] at h7; omega) w (fun p hp => (pw_ok hL ((show ∀ c ∈ secC ps8, c ∈ _ from (fun c hc => by (repeat (first | exact hc | apply List.mem_cons_of_mem)))) _ ( (List.mem_map_of_mem (f := (fun p : CPrt => Chunk.sl p.a p.cap 5 1 (p.xs.map (Value.int .u8)))) hp))) (hz8.2.2 p hp)).os) (hz9.2.2 w (hxb.s.ch0 hC)) (SlE.own (enc := CPrt.v) hL (by (repeat (first | exact List.Mem.head _ | apply List.Mem.tail))) (os_bk hz8.1)) (SlE.own (enc := CPrt.v) hL (by (repeat (first | exact List.Mem.head _ | apply List.Mem.tail))) (os_bk hz9.1))) ?_; intro m' hm'; refine xk ?_; refine xn rfl qm ?_; (first | refine x_nskip rfl rfl rfl rfl ?_ | refine x_nskipv rfl rfl (by rfl) rfl ?_ | refine x_ng rfl rfl rfl (by exact qm) rfl ?_); (first | refine x_nskip rfl rfl rfl rfl ?_ | refine x_nskipv rfl rfl (by rfl) rfl ?_ | refine x_ng rfl rfl rfl (by exact qia) rfl ?_); (first | refine x_skip rfl rfl rfl rfl ?_ | refine x_skipv rfl rfl (by rfl) rfl ?_ | refine x_qg rfl rfl rfl (by exact ql) rfl ?_); (first | refine x_eskip (List.Sublist.refl _) rfl rfl rfl rfl ?_ | refine x_eskipv (List.Sublist.refl _) rfl rfl (by rfl) rfl ?_ | (refine x_eg rfl rfl rfl ?_; refine ecp rfl rfl (fun w hC hm hL => by have h9 := sgen_c gs7 true ga7 ba7 ca7 h2 ([] ++ ys) 10 gb7 bb7 cb7 h1 ([] ++ xs) 0 ((10 - 2) * 64) gd1 (by rw [hh2]; exact ntA_RB _) w (Has.sel hL (by (repeat (first | exact Sel.nil | (refine Sel.cons (by (repeat (first | exact Rm.here | apply Rm.there))) ?_))))); unfold genH at h9; rw [hh2] at h9; dsimp only at h9; rw [gen_of hu1] at h9; exact h9) ?_; intro m' hm'; refine xk ?_)); (first | refine x_nskip rfl rfl rfl rfl ?_ | refine x_nskipv rfl rfl (by rfl) rfl ?_ | refine x_ng rfl rfl rfl (by first | exact deqlt | exact deqlf) rfl ?_); refine xn rfl (by first | exact qpt | exact qpf) ?_; refine xn rfl qa ?_; refine x_nil ?_) | refine n_then ?_ | refine c_block ?_ | refine c_skip ?_ | refine n_block ?_ | refine c_exit ?_ | refine n_then_exit ?_ | refine n_block_eq ?_ | refine n_block_ne rfl ?_ | refine c_ret ?_ | refine n_then_ret ?_ | refine n_block_ret ?_ | refine c_cond_t rfl ?_ | refine c_cond_f rfl ?_ | refine r_succ ?_ )
    (first | apply r_ret () | apply r_end ()); exact rfl; exact rfl; exact (.tmp rfl .nil); exact rfl; exact (List.nil_sublist _); exact new_nil; exact trivial
  · repeat (first | refine c_seq ?_ | (refine c_region (id := 16) ?_; refine sq qm ?_; refine se ?_; refine ecl rfl rfl (fun w hC hm hL => by exact sopen_0 gd1 gw1 gm1 r2.2 hfr2.go (by rw [hokr2.len]; decide) hrg2 (by rw [hokr2.len]; decide) 10 (by rw [hokr2.len]) h1 h2 ([] ++ xs) ([] ++ ys) hl1 hl2 hk1 hk2 (by unfold genH; rw [hh1, hh2]; dsimp only; rw [gen_of hu0, gen_of hu1]; exact hge) w (hL.sub (by (repeat (first | exact List.nil_sublist _ | exact List.Sublist.slnil | apply List.Sublist.cons_cons | exact List.Sublist.refl _ | apply List.Sublist.cons))))) ?_; intro z7 m7 hz7 hn7 hm7; obtain ⟨gs7, ⟨ga7, ba7, ca7⟩, ⟨gb7, bb7, cb7⟩⟩ := z7; have hqs7 : w.heap.size ≤ gs7 := (by have := hn7 gs7 (by simp [feet, Chunk.foot]); omega); have hqa7 : w.heap.size ≤ ga7 := (by have := hn7 ga7 (by simp [feet, Chunk.foot]); omega); have hqb7 : w.heap.size ≤ gb7 := (by have := hn7 gb7 (by simp [feet, Chunk.foot]); omega); have hba7 : ∀ g, ba7 = some ⟨g, 0, none⟩ → w.heap.size ≤ g := (fun g e => by have := hn7 g (by simp [feet, Chunk.foot, e]); omega); have hbb7 : ∀ g, bb7 = some ⟨g, 0, none⟩ → w.heap.size ≤ g := (fun g e => by have := hn7 g (by simp [feet, Chunk.foot, e]); omega); dsimp only at hz7 ⊢; refine sq qm ?_; refine sq qe ?_; refine sq qe ?_; refine sq qa ?_; refine sq qa ?_; refine l_nil ?_) | (refine c_region (id := 17) ?_; refine sq qm ?_; refine sq (by first | exact dneqt | exact dneqf) ?_; refine sq qm ?_; (first | refine sk ?_ | refine skv ?_ | (refine st_want rfl rfl ?_; refine sq qm ?_)); (first | refine sk ?_ | refine skv ?_ | (refine st_want rfl rfl ?_; refine sq (by exact q_eql_pnil rfl rfl (by kernel_rfl)) ?_)); refine sq (by first | exact qpt | exact qpf) ?_; refine l_nil ?_) | refine n_then ?_ | refine c_block ?_ | refine c_skip ?_ | refine n_block ?_ | refine c_exit ?_ | refine n_then_exit ?_ | refine n_block_eq ?_ | refine n_block_ne rfl ?_ | refine c_ret ?_ | refine n_then_ret ?_ | refine n_block_ret ?_ | refine c_cond_t rfl ?_ | refine c_cond_f rfl ?_ | refine r_succ ?_ )
    refine fgs (A := [.blk gs7 (.cells (stC false ga7 gb7) 55 (0, 0)), .sl ba7 ca7 5 1 ((([] ++ xs)).map (Value.int .u8)), LgB ga7 gd1 0 ((10 - 2) * 64) h1 (.slice ba7 ([] ++ xs).length ca7) false, .sl bb7 cb7 5 1 ((([] ++ ys)).map (Value.int .u8)), LgB gb7 gd1 10 ((10 - 2) * 64) h2 (.slice bb7 ([] ++ ys).length cb7) false, .blk g5 (.cells #[.int .u64 g0, .int .u64 g1] 37 (0, 0))]) (by (repeat (first | exact Sp.nil | (apply Sp.cons; focus (repeat (first | exact Rm.here | apply Rm.there)))))) ?_
    repeat (first | refine c_seq ?_ | (refine c_region (id := 19) ?_; refine sq qia ?_; refine sq ql ?_; refine sq qia ?_; refine sq ql ?_; refine sq (by first | exact dgtrt | exact dgtrf) ?_; refine l_nil ?_) | (refine x_region (id := 21) none [(0, .n), (2, .n), (1, .e), (3, .e), (4, .e), (5, .n), (6, .n), (8, .n), (9, .q), (7, .e), (10, .n), (11, .n), (12, .n)] _ mixed (by kernel_rfl) (List.Sublist.refl _) ?_; refine xn rfl qm ?_; refine xn rfl qm ?_; refine x_e rfl ?_; refine ecl rfl rfl (fun w hC hm hL => by exact records_c gs7 false ga7 ba7 ca7 h1 ([] ++ xs) 0 gb7 bb7 cb7 h2 ([] ++ ys) 10 ((10 - 2) * 64) gd1 (by omega) (by rw [List.nil_append, hxa.l]; omega) (by rw [List.nil_append]; exact hxa.r) hz7.1 w (Has.sel hL (by (repeat (first | exact Sel.nil | (refine Sel.cons (by (repeat (first | exact Rm.here | apply Rm.there))) ?_)))))) ?_; intro z8 m8 hz8 hn8 hm8; obtain ⟨b8, cap8, ps8⟩ := z8; dsimp only at hz8; clear hn8; refine prm (L' := .sl b8 cap8 30 1 (ps8.map CPrt.v) :: (.blk gs7 (.cells (stC false ga7 gb7) 55 (0, 0)) :: .sl ba7 ca7 5 1 ((([] ++ xs)).map (Value.int .u8)) :: LgB ga7 gd1 0 ((10 - 2) * 64) h1 (.slice ba7 ([] ++ xs).length ca7) false :: .sl bb7 cb7 5 1 ((([] ++ ys)).map (Value.int .u8)) :: LgB gb7 gd1 10 ((10 - 2) * 64) h2 (.slice bb7 ([] ++ ys).length cb7) false :: .blk g5 (.cells #[.int .u64 g0, .int .u64 g1] 37 (0, 0)) :: secC ps8)) (List.Perm.append_left [_] (List.perm_append_comm (l₁ := secC ps8) (l₂ := [.blk gs7 (.cells (stC false ga7 gb7) 55 (0, 0)), .sl ba7 ca7 5 1 ((([] ++ xs)).map (Value.int .u8)), LgB ga7 gd1 0 ((10 - 2) * 64) h1 (.slice ba7 ([] ++ xs).length ca7) false, .sl bb7 cb7 5 1 ((([] ++ ys)).map (Value.int .u8)), LgB gb7 gd1 10 ((10 - 2) * 64) h2 (.slice bb7 ([] ++ ys).length cb7) false, .blk g5 (.cells #[.int .u64 g0, .int .u64 g1] 37 (0, 0))]))) ?_; refine xk ?_; refine x_e rfl ?_; refine ecl rfl rfl (fun w hC hm hL => by exact rtaken_c pa la ca xs hxa.l hxa.r hxa.c (by omega) hxa.m w (hxa.s.ch0 hC)) ?_; intro z9 m9 hz9 hn9 hm9; obtain ⟨b9, cap9, ps9⟩ := z9; dsimp only at hz9 ⊢; refine xk ?_; refine x_e rfl ?_; refine ecp rfl rfl (fun w hC hm hL => by exact rsame_os ps8 ps9 b8 b9 cap8 cap9 (by rw [hz8.2.1, hz9.2.1, List.nil_append]) (by have h7 := congrArg List.length hz8.2.1; have h6 := recs_len _ ([] ++ xs) (Nat.le_refl _); rw [List.length_map] at h7; rw [List.nil_append] at h6; have h5 := hxa.l; rw [List.nil_append] at h7; omega) w (fun p hp => (pw_ok hL ((show ∀ c ∈ secC ps8, c ∈ _ from (fun c hc => by (repeat (first | exact hc | apply List.mem_cons_of_mem)))) _ ( (List.mem_map_of_mem (f := (fun p : CPrt => Chunk.sl p.a p.cap 5 1 (p.xs.map (Value.int .u8)))) hp))) (hz8.2.2 p hp)).os) (hz9.2.2 w (hxa.s.ch0 hC)) (SlE.own (enc := CPrt.v) hL (by (repeat (first | exact List.Mem.head _ | apply List.Mem.tail))) (os_bk hz8.1)) (SlE.own (enc := CPrt.v) hL (by (repeat (first | exact List.Mem.head _ | apply List.Mem.tail))) (os_bk hz9.1))) ?_; intro m' hm'; refine xk ?_; refine xn rfl qm ?_; (first | refine x_nskip rfl rfl rfl rfl ?_ | refine x_nskipv rfl rfl (by rfl) rfl ?_ | refine x_ng rfl rfl rfl (by exact qm) rfl ?_); (first | refine x_nskip rfl rfl rfl rfl ?_ | refine x_nskipv rfl rfl (by rfl) rfl ?_ | refine x_ng rfl rfl rfl (by exact qia) rfl ?_); (first | refine x_skip rfl rfl rfl rfl ?_ | refine x_skipv rfl rfl (by rfl) rfl ?_ | refine x_qg rfl rfl rfl (by exact ql) rfl ?_); (first | refine x_eskip (List.Sublist.refl _) rfl rfl rfl rfl ?_ | refine x_eskipv (List.Sublist.refl _) rfl rfl (by rfl) rfl ?_ | (refine x_eg rfl rfl rfl ?_; refine ecp rfl rfl (fun w hC hm hL => by have h9 := sgen_c gs7 false ga7 ba7 ca7 h1 ([] ++ xs) 0 gb7 bb7 cb7 h2 ([] ++ ys) 10 ((10 - 2) * 64) gd1 (by rw [hh1]; exact ntA_RB _) w (Has.sel hL (by (repeat (first | exact Sel.nil | (refine Sel.cons (by (repeat (first | exact Rm.here | apply Rm.there))) ?_))))); unfold genH at h9; rw [hh1] at h9; dsimp only at h9; rw [gen_of hu0] at h9; exact h9) ?_; intro m' hm'; refine xk ?_)); (first | refine x_nskip rfl rfl rfl rfl ?_ | refine x_nskipv rfl rfl (by rfl) rfl ?_ | refine x_ng rfl rfl rfl (by first | exact deqlt | exact deqlf) rfl ?_); refine xn rfl (by first | exact qpt | exact qpf) ?_; refine xn rfl qa ?_; refine x_nil ?_) | refine n_then ?_ | refine c_block ?_ | refine c_skip ?_ | refine n_block ?_ | refine c_exit ?_ | refine n_then_exit ?_ | refine n_block_eq ?_ | refine n_block_ne rfl ?_ | refine c_ret ?_ | refine n_then_ret ?_ | refine n_block_ret ?_ | refine c_cond_t rfl ?_ | refine c_cond_f rfl ?_ | refine r_succ ?_ )
    (first | apply r_ret () | apply r_end ()); exact rfl; exact rfl; exact (.tmp rfl .nil); exact rfl; exact (List.nil_sublist _); exact new_nil; exact trivial
theorem sopensTied_ {P : Prop} {w : World} (_ : P) (pa : Option Addr) (la ca : Nat) (xs : List Int) (hxa : Tx w pa la ca xs) (pb : Option Addr) (lb cb : Nat) (ys : List Int) (hxb : Tx w pb lb cb ys) (g0 g1 : Int) (hu0 : (Lit.int .u64 g0).wf = true) (hu1 : (Lit.int .u64 g1).wf = true) :
    Calls Tryd.prog 4 #[.slice pa la ca, .slice pb lb cb, .agg #[.int .u64 g0, .int .u64 g1]] w fun e w' => e = .returned (.bool true) ∧ Below w.heap.size w w' :=
  below_ret (sopens_law pa la ca xs pb lb cb ys g0 g1 (bounds_u64 hu0) (bounds_u64 hu1) w hxa hxb)
end Go.Proofs.YtgmghkakiocmjaaDoor
namespace Go.Proofs.YtgmghkakiocmjaaDoor.lawStoreOpens
open Go.ChangeShapes Go.WideShapes Go.ChangeAt Go.RowKit
open Go.ChangeMaps (open_string shut_string)
set_option linter.unusedVariables false
theorem own : ownKnob Tryd.prog.godebug = none := by kernel_rfl
theorem laidOut : laidOutB Tryd.prog = true := by kernel_rfl
/-- What the row lists. -/
def theLaid : List (String × DataW Unit) := [("jalousie/store.errArg", Rows.laid_jalousie_store_errArg), ("jalousie/store.errLong", Rows.laid_jalousie_store_errLong), ("jalousie/store.errFull", Rows.laid_jalousie_store_errFull), ("jalousie/store.errLost", Rows.laid_jalousie_store_errLost), ("jalousie/store.errSpent", Rows.laid_jalousie_store_errSpent)]
set_option maxRecDepth 100000 in
theorem door_met (os : Os) (args : Array Value) : laidMetH Tryd.prog theLaid ((World.doorLaid Tryd.prog 104 os).forCall (fun _ _ => 0) ⟨#[], args, []⟩).memory :=
  laidMetH_of_parts3 (fuel := 65) (laidMet_of_run' 65 (by kernel_rfl) (by kernel_rfl)) (by kernel_rfl) (by kernel_rfl)
set_option maxRecDepth 100000 in
theorem lifted (os : Os) (started : os.Started) (H : Type) (enc : TypeId × Value → H) :
    ReturnsInHanded {} Tryd.checked os 4 .any (fun w args => (Rows.storeOpensSpec.pre enc Tryd.prog Tryd.f4 [] false w args ∧ laidMetH Tryd.prog theLaid w) ∧ sizedMet enc Tryd.prog Tryd.f4 (OpenSpec.ofChange Rows.storeOpensSpec) false w args)
      (Rows.storeOpensSpec.post enc Tryd.prog Tryd.f4 false true false false) := by
  refine returnsInHanded_of_change_and (C := Tryd.checked) (X := fun w _ => laidMetH Tryd.prog theLaid w) (fun _ _ _ hh h => h.of_heap hh) own started (by kernel_rfl) Tryd.func4
    (ChangeSpec.witness_shaped (enc := enc) (C := Tryd.checked) (os := os) (X := fun w _ => laidMetH Tryd.prog theLaid w) false (World.doorLaid Tryd.prog 104 os) #[.slice none 0 0, .slice none 0 0, .agg #[.int .u64 0, .int .u64 0]] 8 rfl (World.shaped_of_RefB (by kernel_rfl) (by kernel_rfl)) (by kernel_rfl) (by kernel_rfl) (by kernel_rfl) (door_met os _)) ?_
  intro W base args ds gs before hval0 hW hcnd _ hL _
  have hval : ∀ (j : Nat) t v, Tryd.f4.params[j]? = some t → args[j]? = some v → Value.okWide Tryd.prog W .any base t v := hval0
  have hW' := hW
  obtain ⟨p, q, hA0, hV, rfl, hfz, hnd⟩ := hW
  have hA : DataW.TrodAll enc Tryd.prog W 0 (fun _ => true) true Tryd.f4.params.toList args.toList ds p := hA0
  rw [Tryd.params4] at hA hval
  obtain ⟨v0, vs0, d0, ds0, p0, q0, hargs, rfl, rfl, h0, r0⟩ := trodAll_cons hA
  obtain ⟨v1, vs1, d1, ds1, p1, q1, rfl, rfl, rfl, h1, r1⟩ := trodAll_cons r0
  obtain ⟨v2, vs2, d2, ds2, p2, q2, rfl, rfl, rfl, h2, r2⟩ := trodAll_cons r1
  obtain ⟨rfl, rfl, rfl⟩ := trodAll_nil r2
  obtain rfl : args = #[v0, v1, v2] := by cases args; simp_all
  obtain ⟨rfl, rfl⟩ := trodVars_none hV
  have k0 := h0
  have lt0 : ∀ x ∈ p0, x.block < W.heap.size := by obtain ⟨m, hm⟩ := k0; exact DataW.trod_lt m _ _ _ hm
  have k1 := h1
  have lt1 : ∀ x ∈ p1, x.block < W.heap.size := by obtain ⟨m, hm⟩ := k1; exact DataW.trod_lt m _ _ _ hm
  have k2 := h2
  have lt2 : ∀ x ∈ p2, x.block < W.heap.size := by obtain ⟨m, hm⟩ := k2; exact DataW.trod_lt m _ _ _ hm
  obtain ⟨a0, l0, c0, x0, rfl, t0⟩ := text_of Tryd.underlying30 Tryd.underlying5 (by kernel_rfl) (hval 0 30 v0 rfl rfl) (reads_of_trod k0)
  obtain ⟨a1, l1, c1, x1, rfl, t1⟩ := text_of Tryd.underlying30 Tryd.underlying5 (by kernel_rfl) (hval 1 30 v1 rfl rfl) (reads_of_trod k1)
  obtain ⟨x2, y2, hx2, hy2, rfl⟩ := pair_of Tryd.underlying37 Tryd.underlying36 (by kernel_rfl) (by kernel_rfl) (hval 2 37 v2 rfl rfl) (reads_of_trod k2)
  clear hA0 hval0
  refine (sopensTied_ hL a0 l0 c0 x0 t0 a1 l1 c1 x1 t1 x2 y2 hx2 hy2).mono fun e W' ⟨he, bel⟩ => ?_
  subst he
  exact ⟨_, rfl, _, _, _, [], _, [], hW', trodAll_mk1 (shut_bool Tryd.underlying4 _), (trodAll_cons_mk (Below.trod laidOut (by kernel_rfl) (of_decide_eq_true (by kernel_rfl)) k0 bel lt0) (trodAll_cons_mk (Below.trod laidOut (by kernel_rfl) (of_decide_eq_true (by kernel_rfl)) k1 bel lt1) (trodAll_cons_mk (Below.trod laidOut (by kernel_rfl) (of_decide_eq_true (by kernel_rfl)) k2 bel lt2) trodAll_mk0))), rfl, bel.frame _, fun h => by cases h⟩
theorem over : Rows.storeOpensRow.holds Tryd.pinned (OpenSpec.ofChange Rows.storeOpensSpec) :=
  OpenClaim.holds_of_wide 4 Tryd.f4 rfl rfl rfl rfl rfl rfl rfl ⟨rfl, rfl, rfl, rfl, rfl⟩ rfl rfl rfl rfl rfl (by kernel_rfl) Tryd.func4 (by kernel_rfl)
    (of_decide_eq_true (by kernel_rfl)) (by unfold Func.isWrapper; first | (rw [if_pos (by decide +kernel)]; kernel_rfl) | (rw [if_neg (by decide +kernel)]; exact ⟨rfl, rfl⟩))
    (fun os started H enc _ => lifted os started H enc)
set_option maxRecDepth 100000 in
/-- StoreOpens: whatever the input, the law answers true, and its arguments read afterwards as before. No condition. -/
theorem proved : Rows.StoreOpensCardSaid :=
  Claim7.holds_tied_plain_at .later [] [.sentinel, .sentinel, .sentinel, .sentinel, .sentinel] true (true, "b3665a0690ea6340cee859139c688ad8163b7dc907f46d0c16dcd666bd13eaf4") true
    over (fun _ h => by cases h) (by kernel_rfl) (fun _ h => by cases h) storeOpens_row_tie rfl ⟨rfl, rfl⟩ (by kernel_rfl) rfl
    (fun f fn hf hfn => by
      obtain rfl : f = 4 := Option.some.inj ((show Tryd.prog.funcNamed "jalousie/jalousielaw09.StoreOpens" = some 4 by kernel_rfl).symm.trans hf) |>.symm
      obtain rfl : fn = Tryd.f4 := (Option.some.inj (Tryd.func4.symm.trans hfn)).symm
      exact ⟨by kernel_rfl, fun j t ht => by
        rw [Tryd.params4] at ht
        have hm : t ∈ [30, 30, 37] := by simpa using Array.mem_of_getElem? ht
        have hall : ([30, 30, 37].all fun u => !Tryd.prog.wantsStandIn u) = true := by kernel_rfl
        exact (show Tryd.prog.wantsStandIn t = false by simpa using List.all_eq_true.1 hall t hm)⟩)
    (by kernel_rfl)
#print axioms proved
end Go.Proofs.YtgmghkakiocmjaaDoor.lawStoreOpens
