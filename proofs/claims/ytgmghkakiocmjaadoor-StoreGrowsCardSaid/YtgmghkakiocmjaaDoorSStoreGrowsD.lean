/- Proved: for every input, the law jalousielaw09.StoreGrows returns true and does not panic, and each argument reads behind the call as it read before. Conditions: the card's own, that is, the package-level values that it names are as the program lays them. -/
import Derived.Test.YtgmghkakiocmjaaDoorSStoreGrowsC
namespace Go.Proofs.YtgmghkakiocmjaaDoor
open Go Go.RowKit
set_option linter.unusedVariables false
set_option linter.unusedSimpArgs false
def recF : Nat → List Int → List (List Int)
  | 0, _ => []
  | k + 1, ys => if (numX ys).2 ≠ 0 ∧ (numX ys).1 ≤ 4096 ∧ (numX ys).2 + (numX ys).1 ≤ ys.length then (ys.drop (numX ys).2).take (numX ys).1 :: recF k (ys.drop ((numX ys).2 + (numX ys).1)) else []
def recs (ys : List Int) : List (List Int) := recF ys.length ys
theorem recF_big : ∀ (k : Nat) (ys : List Int), ys.length ≤ k → recF k ys = recF ys.length ys
  | 0, ys, h => by
    obtain rfl : ys = [] := List.eq_nil_of_length_eq_zero (by omega)
    rfl
  | k + 1, ys, h => by
    by_cases hc : (numX ys).2 ≠ 0 ∧ (numX ys).1 ≤ 4096 ∧ (numX ys).2 + (numX ys).1 ≤ ys.length
    · obtain ⟨m, hm⟩ : ∃ m, ys.length = m + 1 := ⟨ys.length - 1, by omega⟩
      have e1 : recF (k + 1) ys = (ys.drop (numX ys).2).take (numX ys).1 :: recF k (ys.drop ((numX ys).2 + (numX ys).1)) := by rw [recF, if_pos hc]
      have e2 : recF (m + 1) ys = (ys.drop (numX ys).2).take (numX ys).1 :: recF m (ys.drop ((numX ys).2 + (numX ys).1)) := by rw [recF, if_pos hc]
      rw [e1, hm, e2, recF_big k _ (by simp; omega), recF_big m _ (by simp; omega)]
    · have e1 : recF (k + 1) ys = [] := by rw [recF, if_neg hc]
      rw [e1]
      cases hl : ys.length with
      | zero => rfl
      | succ m => rw [recF, if_neg hc]
  termination_by k => k
theorem recs_ok {ys : List Int} {x n : Nat} (hx : numX ys = (x, n)) (hn : n ≠ 0) (h4 : x ≤ 4096) (hl : n + x ≤ ys.length) : recs ys = (ys.drop n).take x :: recs (ys.drop (n + x)) := by
  obtain ⟨m, hm⟩ : ∃ m, ys.length = m + 1 := ⟨ys.length - 1, by omega⟩
  unfold recs
  rw [hm, recF, hx]
  dsimp only
  rw [if_pos ⟨hn, h4, by omega⟩, recF_big m _ (by simp; omega)]
theorem recs_no {ys : List Int} (h : (numX ys).2 = 0 ∨ 4096 < (numX ys).1 ∨ ys.length < (numX ys).2 + (numX ys).1) : recs ys = [] := by
  unfold recs
  cases hl : ys.length with
  | zero => rfl
  | succ m => rw [recF, if_neg (by omega)]
structure PW (p : CPrt) : Prop where
  l : p.xs.length = p.len
  c : p.len ≤ p.cap
  r : ∀ x ∈ p.xs, 0 ≤ x ∧ x ≤ 255
theorem pw_ok {p : CPrt} {L : List Chunk} {w : World} (hL : Has L w) (hm : Chunk.sl p.a p.cap 5 1 (p.xs.map (Value.int .u8)) ∈ L) (h : PW p) : p.Ok w := by
  have hb := hL.ok _ hm
  simp only [Chunk.ok] at hb
  refine ⟨⟨?_⟩, h.l, h.c, h.r⟩
  rcases hb with ⟨_, _, h9⟩ | ⟨g, cs, e, k1, k2, k3⟩
  · exact .inl (by simpa using h9)
  · refine .inr ⟨g, 0, e, ?_⟩
    rw [e] at hm
    exact hL.old_sl (k := (p.xs.map (Value.int .u8)).length) hm (by rw [List.drop_zero, List.take_of_length_le (Nat.le_refl _)])
theorem secC_foot2 {k : Nat} {X : List Nat} {ps : List CPrt} (h : ∀ p ∈ ps, ∀ g, p.a = some ⟨g, 0, none⟩ → k ≤ g) (h2 : ∀ p ∈ ps, p.a = none ∨ ∃ g, p.a = some ⟨g, 0, none⟩) : ∀ g ∈ feet (secC ps), g ∈ X ∨ k ≤ g := by
  intro g hg
  obtain ⟨c, hc, hg⟩ := List.mem_flatMap.1 hg
  simp only [secC, List.mem_map] at hc
  obtain ⟨p, hp, rfl⟩ := hc
  rcases h2 p hp with e | ⟨g9, e⟩
  · rw [e] at hg; simp [Chunk.foot] at hg
  · rw [e] at hg; simp [Chunk.foot] at hg; rw [hg]; exact .inr (h p hp g9 e)
set_option maxRecDepth 100000 in
set_option maxHeartbeats 4000000 in
theorem records_c (gs : Nat) (at_ : Bool) (ga : Nat) (ba : Option Addr) (ca : Nat) (ha : Hd) (bsa : List Int) (fra gb : Nat) (bb : Option Addr) (cb : Nat) (hb : Hd) (bsb : List Int) (frb room gd : Nat) (hroom : room ≤ 60000) (hla : bsa.length ≤ room) (hra : ∀ x ∈ bsa, 0 ≤ x ∧ x ≤ 255) (hbka : BK ba ca bsa.length) (w : World) (hS : Has (StL gs at_ ga ba ca ha bsa fra gb bb cb hb bsb frb room gd) w) :
    CA Tryd.prog 11 [.pointer (some ⟨gs, 0, none⟩)] w (Ret (fun z : Option Addr × Nat × List CPrt => .slice z.1 z.2.2.length z.2.1) [] (fun z => .sl z.1 z.2.1 30 1 ((z.2.2).map CPrt.v) :: secC z.2.2) (fun z => BK z.1 z.2.1 z.2.2.length ∧ z.2.2.map (·.xs) = recs bsa ∧ ∀ p ∈ z.2.2, PW p) w) := by
  refine enter (L := (StL gs at_ ga ba ca ha bsa fra gb bb cb hb bsb frb room gd)) (X := []) Tryd.func11 rfl Tryd.ntmps11 rfl rfl hS ?_
  repeat (first | refine c_seq ?_ | (refine c_region (id := 0) ?_; refine sq qa ?_; refine l_nil ?_) | (refine c_region (id := 1) ?_; refine sq qa ?_; refine l_nil ?_) | (refine c_region (id := 2) ?_; refine sq qm ?_; refine se ?_; refine ecp rfl rfl (fun w hC hm hL => by exact slog_c at_ gs ga gb w (hL.old (k := 3) (by (repeat (first | exact List.Mem.head _ | apply List.Mem.tail))) (by cases at_ <;> rfl))) ?_; intro m' hm'; refine se ?_; refine e_callL (enc := (Value.int .u8)) (e := 5) rfl rfl (by kernel_rfl) rfl (fun w hC hm hL => by exact lbytes_c ga gd fra room ha ba ca false bsa (by omega) w (SlE.own hL (by (repeat (first | exact List.Mem.head _ | apply List.Mem.tail))) (os_bk hbka)) (hL.sub (by (repeat (first | exact List.nil_sublist _ | exact List.Sublist.slnil | apply List.Sublist.cons_cons | exact List.Sublist.refl _ | apply List.Sublist.cons))))) ?_; intro b6 cap6 zs6 m6 hz6 ho6 hm6; refine se ?_; refine ecl rfl rfl (fun w hC hm hL => by exact read_c b6 zs6.length cap6 zs6 rfl (by rw [hz6]; omega) w (SlE.own hL (by (repeat (first | exact List.Mem.head _ | apply List.Mem.tail))) ho6)) ?_; intro z1 m1 hz1 hn1 hm1; obtain ⟨gi, b, cap⟩ := z1; dsimp only at hz1 ⊢; refine sq qa ?_; refine l_nil ?_) | refine n_then ?_ | refine c_block ?_ | refine c_skip ?_ | refine n_block ?_ | refine c_exit ?_ | refine n_then_exit ?_ | refine n_block_eq ?_ | refine n_block_ne rfl ?_ | refine c_ret ?_ | refine n_then_ret ?_ | refine n_block_ret ?_ | refine c_cond_t rfl ?_ | refine c_cond_f rfl ?_ | refine r_succ ?_ )
  rw [hz6] at hz1 ⊢
  have hob : OS [] 0 b cap bsa.length := hz1
  have hbn9 : ∀ g, b = some ⟨g, 0, none⟩ → w.heap.size ≤ g := fun g e => by have := hn1 g (by simp [feet, Chunk.foot, e]); omega
  have hob9 : BK b cap bsa.length := hob.ret
  have hgi : w.heap.size ≤ gi := by have := hn1 gi (by simp [feet, Chunk.foot]); omega
  refine add_nil 30 1 ?_
  refine c_loop (γ := List CPrt × (Option Addr × Nat) × (Option Addr × Nat × Nat) × Nat) (fun z => [(4, .pointer (some ⟨gi, 0, none⟩)), (3, .slice z.2.1.1 z.1.length z.2.1.2)]) (fun z => z.2.2.2) (fun z => .sl z.2.1.1 z.2.1.2 30 1 ((z.1).map CPrt.v) :: (.sl b cap 5 1 (bsa.map (Value.int .u8))) :: (.blk gi (.cells #[.slice z.2.2.1.1 z.2.2.1.2.1 z.2.2.1.2.2, .bool false] 98 (0, 0))) :: secC z.1) (fun z => OS [] w.heap.size z.2.1.1 z.2.1.2 z.1.length ∧ LV b bsa z.2.2.1.1 z.2.2.1.2.1 z.2.2.1.2.2 ∧ z.1.map (·.xs) ++ recs (bsa.drop (bsa.length - z.2.2.1.2.1)) = recs bsa ∧ (∀ p ∈ z.1, PW p) ∧ (∀ p ∈ z.1, ∀ g, p.a = some ⟨g, 0, none⟩ → w.heap.size ≤ g) ∧ (∀ p ∈ z.1, p.a = none ∨ ∃ g, p.a = some ⟨g, 0, none⟩) ∧ z.1.length + z.2.2.1.2.1 ≤ bsa.length ∧ w.heap.size ≤ z.2.2.2) (fun z => z.2.2.1.2.1) ⟨[], (none, 0), (b, bsa.length, cap), m1⟩ ⟨OS.nil _ _, LV.all hob, by simp, by simp, by simp, by simp, by simp, by dsimp only; omega⟩ ⟨rfl, rfl, trivial⟩ rfl (by exact (by (repeat (first | exact List.nil_sublist _ | exact List.Sublist.slnil | apply List.Sublist.cons_cons | exact List.Sublist.refl _ | apply List.Sublist.cons)))) ?_
  rintro ⟨ps, ⟨bo, co⟩, ⟨lb, ll, lc⟩, mm⟩ ⟨ho, hv, hrec, hpw, hpn, hpa, hpl, hmm⟩
  dsimp only at ho hv hrec hpw hpn hpa hpl hmm ⊢
  have hvl := hv.le
  by_cases h0 : ll = 0
  · have e9 : bsa.drop (bsa.length - ll) = [] := by rw [List.drop_eq_nil_iff]; omega
    rw [e9] at hrec
    repeat (first | refine c_seq ?_ | (refine c_region (id := 3) ?_; refine sq qm ?_; refine se ?_; refine ecp rfl rfl (fun w hC hm hL => by exact left_c gi lb ll lc false w (hL.old (k := 2) (by (repeat (first | exact List.Mem.head _ | apply List.Mem.tail))) (by rfl))) ?_; intro m' hm'; refine sq (by first | exact dgtrt | exact dgtrf) ?_; refine l_nil ?_) | (refine c_region (id := 7) ?_; refine sq qm ?_; refine sq qa ?_; refine l_nil ?_) | refine n_then ?_ | refine c_block ?_ | refine c_skip ?_ | refine n_block ?_ | refine c_exit ?_ | refine n_then_exit ?_ | refine n_block_eq ?_ | refine n_block_ne rfl ?_ | refine c_ret ?_ | refine n_then_ret ?_ | refine n_block_ret ?_ | refine c_cond_t rfl ?_ | refine c_cond_f rfl ?_ | refine r_succ ?_ )
    (first | apply r_ret (bo, co, ps) | apply r_end (bo, co, ps)); exact rfl; exact rfl; exact (.tmp rfl .nil); exact rfl; exact (by exact (by (repeat (first | exact List.nil_sublist _ | exact List.Sublist.slnil | apply List.Sublist.cons_cons | exact List.Sublist.refl _ | apply List.Sublist.cons)))); exact (new_sl ho.newc (secC_foot2 hpn hpa)); exact ⟨ho.ret, by rw [← hrec]; simp [recs, recF], hpw⟩
  obtain ⟨ys, hys⟩ : ∃ ys, ys = bsa.drop (bsa.length - ll) := ⟨_, rfl⟩
  have hyl : ys.length = ll := by rw [hys]; simp; omega
  obtain ⟨⟨x, n⟩, hxn⟩ : ∃ xn, numX ys = xn := ⟨_, rfl⟩
  rw [← hys] at hrec
  by_cases hok : n ≠ 0 ∧ x ≤ 4096 ∧ n + x ≤ ll
  · obtain ⟨hn0, hx4, hnx⟩ := hok
    have hr2 := recs_ok hxn hn0 hx4 (by omega)
    have hdr : bsa.drop (bsa.length - (ll - n - x)) = ys.drop (n + x) := by rw [hys, List.drop_drop]; congr 1; omega
    have hdr2 : bsa.drop (bsa.length - (ll - n)) = ys.drop n := by rw [hys, List.drop_drop]; congr 1; omega
    have hlen4 : ((ys.drop n).take x).length = x := by simp; omega
    repeat (first | refine c_seq ?_ | (refine c_region (id := 3) ?_; refine sq qm ?_; refine se ?_; refine ecp rfl rfl (fun w hC hm hL => by exact left_c gi lb ll lc false w (hL.old (k := 2) (by (repeat (first | exact List.Mem.head _ | apply List.Mem.tail))) (by rfl))) ?_; intro m' hm'; refine sq (by first | exact dgtrt | exact dgtrf) ?_; refine l_nil ?_) | (refine c_region (id := 4) ?_; refine sq qm ?_; refine se ?_; refine e_callX [(.sl b cap 5 1 (bsa.map (Value.int .u8))), (.blk gi (.cells #[.slice lb ll lc, .bool false] 98 (0, 0)))] _ rfl rfl (by kernel_rfl) rfl (by (repeat (first | exact Sp.nil | (apply Sp.cons; focus (repeat (first | exact Rm.here | apply Rm.there)))))) (fun w hC hm hA hL hap => by exact itext_c gi b cap bsa hra (by omega) lb ll lc false hv w hob hA 4096 ⟨by omega, by omega⟩ x n (by rw [← hys]; exact hxn) hn0 (by omega) hx4 (by omega)) (by intro g hg; simp only [feet, List.flatMap_cons, List.mem_append] at hg; rcases hg with h9 | h9; exact bk_new hob9 hbn9 g h9; (simp [Chunk.foot] at h9; exact .inr (by omega))) (fun _ => rfl) ?_; intro z4 m4 hz4 hn4 hm4; obtain ⟨b4, cap4, lb4⟩ := z4; dsimp only at hz4 hn4 ⊢; refine sq qa ?_; refine l_nil ?_) | refine n_then ?_ | refine c_block ?_ | refine c_skip ?_ | refine n_block ?_ | refine c_exit ?_ | refine n_then_exit ?_ | refine n_block_eq ?_ | refine n_block_ne rfl ?_ | refine c_ret ?_ | refine n_then_ret ?_ | refine n_block_ret ?_ | refine c_cond_t rfl ?_ | refine c_cond_f rfl ?_ | refine r_succ ?_ )
    rw [hdr2]
    repeat (first | refine c_seq ?_ | (refine c_region (id := 5) ?_; refine sq qm ?_; refine se ?_; refine ecp rfl rfl (fun w hC hm hL => by exact bad_c gi _ false w (hL.old (k := 2) (by (repeat (first | exact List.Mem.head _ | apply List.Mem.tail))) (by rfl))) ?_; intro m' hm'; refine l_nil ?_) | (refine c_region (id := 6) ?_; refine sq qm ?_; refine sq qm ?_; refine se ?_; refine ebs ?_; refine se ?_; refine e_appM CPrt.v ps (⟨b4, x, cap4, (ys.drop n).take x⟩ : CPrt) rfl rfl rfl (by (repeat (first | exact Rm.here | apply Rm.there))) (by (repeat (first | exact List.Mem.head _ | apply List.Mem.tail))) rfl ho (by rfl) (by omega) (by omega) ?_; intro b2 cap2 m2 ho2 hm2; refine sq qa ?_; refine l_nil ?_) | refine n_then ?_ | refine c_block ?_ | refine c_skip ?_ | refine n_block ?_ | refine c_exit ?_ | refine n_then_exit ?_ | refine n_block_eq ?_ | refine n_block_ne rfl ?_ | refine c_ret ?_ | refine n_then_ret ?_ | refine n_block_ret ?_ | refine c_cond_t rfl ?_ | refine c_cond_f rfl ?_ | refine r_succ ?_ )
    refine prm (L' := .sl b2 cap2 30 1 (((ps ++ [(⟨b4, x, cap4, (ys.drop n).take x⟩ : CPrt)])).map CPrt.v) :: _ :: (.sl b cap 5 1 (bsa.map (Value.int .u8))) :: (.blk gi (.cells #[.slice lb4 (ll - n - x) (lc - n - x), .bool false] 98 (0, 0))) :: (secC ps ++ [.sl b4 cap4 5 1 (((ys.drop n).take x).map (Value.int .u8))])) (List.Perm.append_left [_, _] (List.perm_append_comm (l₁ := [_]) (l₂ := [_, _] ++ secC ps))) ?_
    refine c_round ⟨ps ++ [(⟨b4, x, cap4, (ys.drop n).take x⟩ : CPrt)], (b2, cap2), (lb4, ll - n - x, lc - n - x), m2⟩ ⟨by simpa using ho2, hz4.2, by rw [hdr]; simp only [List.map_append, List.map_cons, List.map_nil, List.append_assoc, List.cons_append, List.nil_append]; rw [← hr2]; exact hrec, fun q hq => ?_, fun q hq g e => ?_, fun q hq => ?_, by simp; omega, by dsimp only; omega⟩ (by dsimp only; omega) ⟨rfl, by simp; try rfl, trivial⟩ (by rfl) (by dsimp only; rw [secC_succ]; exact (by (repeat (first | exact List.nil_sublist _ | exact List.Sublist.slnil | apply List.Sublist.cons_cons | exact List.Sublist.refl _ | apply List.Sublist.cons))))
    · rcases List.mem_append.1 hq with h1 | h1
      · exact hpw q h1
      · simp only [List.mem_singleton] at h1
        subst h1
        exact ⟨hlen4, hz4.1.le, fun v hv9 => hra v (by have h7 := List.mem_of_mem_drop (List.mem_of_mem_take hv9); rw [hys] at h7; exact List.mem_of_mem_drop h7)⟩
    · rcases List.mem_append.1 hq with h1 | h1
      · exact hpn q h1 g e
      · simp only [List.mem_singleton] at h1
        subst h1
        have e : b4 = some ⟨g, 0, none⟩ := e
        have h7 := hn4 g (by simp [feet, Chunk.foot, e])
        simp at h7
        exact h7
    · rcases List.mem_append.1 hq with h1 | h1
      · exact hpa q h1
      · simp only [List.mem_singleton] at h1
        subst h1
        exact hz4.1.ob.imp (fun h => h.1) id
  · have hno : false = true ∨ (numX (bsa.drop (bsa.length - ll))).2 = 0 ∨ (4096 : Int) < 0 ∨ (4096 : Int) < ((numX (bsa.drop (bsa.length - ll))).1 : Int) ∨ 4096 < (numX (bsa.drop (bsa.length - ll))).1 ∨ ll < (numX (bsa.drop (bsa.length - ll))).2 + (numX (bsa.drop (bsa.length - ll))).1 := by
      rw [← hys, hxn]
      dsimp only
      omega
    have hr2 := recs_no (ys := ys) (by rw [hxn]; dsimp only; omega)
    rw [hr2] at hrec
    repeat (first | refine c_seq ?_ | (refine c_region (id := 3) ?_; refine sq qm ?_; refine se ?_; refine ecp rfl rfl (fun w hC hm hL => by exact left_c gi lb ll lc false w (hL.old (k := 2) (by (repeat (first | exact List.Mem.head _ | apply List.Mem.tail))) (by rfl))) ?_; intro m' hm'; refine sq (by first | exact dgtrt | exact dgtrf) ?_; refine l_nil ?_) | (refine c_region (id := 4) ?_; refine sq qm ?_; refine se ?_; refine e_callX [(.sl b cap 5 1 (bsa.map (Value.int .u8))), (.blk gi (.cells #[.slice lb ll lc, .bool false] 98 (0, 0)))] _ rfl rfl (by kernel_rfl) rfl (by (repeat (first | exact Sp.nil | (apply Sp.cons; focus (repeat (first | exact Rm.here | apply Rm.there)))))) (fun w hC hm hA hL hap => by exact itextno_c gi b cap bsa hra (by omega) lb ll lc false hv w hob hA 4096 ⟨by omega, by omega⟩ hno) (by intro g hg; simp only [feet, List.flatMap_cons, List.mem_append] at hg; rcases hg with h9 | h9; exact bk_new hob9 hbn9 g h9; (simp [Chunk.foot] at h9; exact .inr (by omega))) (fun _ => rfl) ?_; intro _ m4 _ hn4 hm4; refine sq qa ?_; refine l_nil ?_) | (refine c_region (id := 5) ?_; refine sq qm ?_; refine se ?_; refine ecp rfl rfl (fun w hC hm hL => by exact bad_c gi _ true w (hL.old (k := 2) (by (repeat (first | exact List.Mem.head _ | apply List.Mem.tail))) (by rfl))) ?_; intro m' hm'; refine l_nil ?_) | (refine c_region (id := 7) ?_; refine sq qm ?_; refine sq qa ?_; refine l_nil ?_) | refine n_then ?_ | refine c_block ?_ | refine c_skip ?_ | refine n_block ?_ | refine c_exit ?_ | refine n_then_exit ?_ | refine n_block_eq ?_ | refine n_block_ne rfl ?_ | refine c_ret ?_ | refine n_then_ret ?_ | refine n_block_ret ?_ | refine c_cond_t rfl ?_ | refine c_cond_f rfl ?_ | refine r_succ ?_ )
    (first | apply r_ret (bo, co, ps) | apply r_end (bo, co, ps)); exact rfl; exact rfl; exact (.tmp rfl .nil); exact rfl; exact (by exact (by (repeat (first | exact List.nil_sublist _ | exact List.Sublist.slnil | apply List.Sublist.cons_cons | exact List.Sublist.refl _ | apply List.Sublist.cons)))); exact (new_sl ho.newc (secC_foot2 hpn hpa)); exact ⟨ho.ret, by rw [← hrec]; simp, hpw⟩
end Go.Proofs.YtgmghkakiocmjaaDoor
namespace Go.Proofs.YtgmghkakiocmjaaDoor
open Go Go.RowKit
set_option linter.unusedVariables false
set_option linter.unusedSimpArgs false
set_option maxRecDepth 100000 in
set_option maxHeartbeats 4000000 in
theorem sroom_c (gs : Nat) (at_ : Bool) (ga : Nat) (ba : Option Addr) (ca : Nat) (ha : Hd) (bsa : List Int) (fra gb : Nat) (bb : Option Addr) (cb : Nat) (hb : Hd) (bsb : List Int) (frb room gd : Nat) (hr : bsa.length ≤ room ∧ room ≤ 100000000) (w : World) (hS : Has (StL gs at_ ga ba ca ha bsa fra gb bb cb hb bsb frb room gd) w) : CA Tryd.prog 12 [.pointer (some ⟨gs, 0, none⟩)] w (RV (.int .i64 ((room : Int) - bsa.length)) w) := by
  refine enter (L := (StL gs at_ ga ba ca ha bsa fra gb bb cb hb bsb frb room gd)) (X := []) Tryd.func12 rfl Tryd.ntmps12 rfl rfl hS ?_
  repeat (first | refine c_seq ?_ | (refine c_region (id := 0) ?_; refine sq qa ?_; refine l_nil ?_) | (refine c_region (id := 1) ?_; refine sq qm ?_; refine se ?_; refine ecp rfl rfl (fun w hC hm hL => by exact slog_c at_ gs ga gb w (hL.old (k := 3) (by (repeat (first | exact List.Mem.head _ | apply List.Mem.tail))) (by cases at_ <;> rfl))) ?_; intro m' hm'; refine se ?_; refine ecp rfl rfl (fun w hC hm hL => by exact room_c ga gd fra room ha ba bsa.length ca false hr w (hL.sub (by (repeat (first | exact List.nil_sublist _ | exact List.Sublist.slnil | apply List.Sublist.cons_cons | exact List.Sublist.refl _ | apply List.Sublist.cons))))) ?_; intro m' hm'; refine sq qa ?_; refine l_nil ?_) | refine n_then ?_ | refine c_block ?_ | refine c_skip ?_ | refine n_block ?_ | refine c_exit ?_ | refine n_then_exit ?_ | refine n_block_eq ?_ | refine n_block_ne rfl ?_ | refine c_ret ?_ | refine n_then_ret ?_ | refine n_block_ret ?_ | refine c_cond_t rfl ?_ | refine c_cond_f rfl ?_ | refine r_succ ?_ )
  (first | apply r_ret () | apply r_end ()); exact rfl; exact rfl; exact (.tmp rfl .nil); exact rfl; exact (List.nil_sublist _); exact new_nil; exact trivial
set_option maxRecDepth 100000 in
set_option maxHeartbeats 4000000 in
theorem sover_c (gs : Nat) (at_ : Bool) (ga : Nat) (ba : Option Addr) (ca : Nat) (ha : Hd) (bsa : List Int) (fra gb : Nat) (bb : Option Addr) (cb : Nat) (hb : Hd) (bsb : List Int) (frb room gd : Nat) (w : World) (hS : Has (StL gs at_ ga ba ca ha bsa fra gb bb cb hb bsb frb room gd) w) : CA Tryd.prog 43 [.pointer (some ⟨gs, 0, none⟩)] w (RV (.bool false) w) := by
  refine enter (L := (StL gs at_ ga ba ca ha bsa fra gb bb cb hb bsb frb room gd)) (X := []) Tryd.func43 rfl Tryd.ntmps43 rfl rfl hS ?_
  repeat (first | refine c_seq ?_ | (refine c_region (id := 0) ?_; refine sq qa ?_; refine l_nil ?_) | (refine c_region (id := 1) ?_; refine sq qm ?_; refine se ?_; refine ecp rfl rfl (fun w hC hm hL => by exact slog_c at_ gs ga gb w (hL.old (k := 3) (by (repeat (first | exact List.Mem.head _ | apply List.Mem.tail))) (by cases at_ <;> rfl))) ?_; intro m' hm'; refine se ?_; refine ecp rfl rfl (fun w hC hm hL => by first | exact lover_c ga gd fra room ha _ false w (hL.sub (by (repeat (first | exact List.nil_sublist _ | exact List.Sublist.slnil | apply List.Sublist.cons_cons | exact List.Sublist.refl _ | apply List.Sublist.cons)))) | exact lover_c gb gd frb room hb _ false w (hL.sub (by (repeat (first | exact List.nil_sublist _ | exact List.Sublist.slnil | apply List.Sublist.cons_cons | exact List.Sublist.refl _ | apply List.Sublist.cons))))) ?_; intro m' hm'; refine sq qm ?_; (first | refine sk ?_ | refine skv ?_ | (refine st_want rfl rfl ?_; refine sq qm ?_)); (first | refine sk ?_ | refine skv ?_ | (refine st_want rfl rfl ?_; refine se ?_; refine ecp rfl rfl (fun w hC hm hL => by exact soth_c at_ gs ga gb w (hL.old (k := 3) (by (repeat (first | exact List.Mem.head _ | apply List.Mem.tail))) (by cases at_ <;> rfl))) ?_; intro m' hm')); (first | refine sk ?_ | refine skv ?_ | (refine st_want rfl rfl ?_; refine se ?_; refine ecp rfl rfl (fun w hC hm hL => by first | exact lover_c ga gd fra room ha _ false w (hL.sub (by (repeat (first | exact List.nil_sublist _ | exact List.Sublist.slnil | apply List.Sublist.cons_cons | exact List.Sublist.refl _ | apply List.Sublist.cons)))) | exact lover_c gb gd frb room hb _ false w (hL.sub (by (repeat (first | exact List.nil_sublist _ | exact List.Sublist.slnil | apply List.Sublist.cons_cons | exact List.Sublist.refl _ | apply List.Sublist.cons))))) ?_; intro m' hm')); refine sq (by first | exact qpt | exact qpf) ?_; refine sq qa ?_; refine l_nil ?_) | refine n_then ?_ | refine c_block ?_ | refine c_skip ?_ | refine n_block ?_ | refine c_exit ?_ | refine n_then_exit ?_ | refine n_block_eq ?_ | refine n_block_ne rfl ?_ | refine c_ret ?_ | refine n_then_ret ?_ | refine n_block_ret ?_ | refine c_cond_t rfl ?_ | refine c_cond_f rfl ?_ | refine r_succ ?_ )
  (first | apply r_ret () | apply r_end ()); exact rfl; exact rfl; exact (.tmp rfl .nil); exact rfl; exact (List.nil_sublist _); exact new_nil; exact trivial
def packL (ps : List CPrt) : List Int := ps.flatMap fun p => leb p.xs.length ++ p.xs
theorem packL_succ {ps : List CPrt} {i : Nat} {p : CPrt} (h : ps[i]? = some p) : packL (ps.take (i + 1)) = packL (ps.take i) ++ (leb p.xs.length ++ p.xs) := by
  unfold packL
  rw [List.take_add_one, h]
  simp
theorem leb2 {n : Nat} (h : n ≤ 4096) : (leb n).length ≤ 2 ∧ 1 ≤ (leb n).length := by
  by_cases h1 : n < 128
  · rw [leb_small h1]; simp
  · rw [leb_big h1, leb_small (show n / 128 < 128 by omega)]; simp
theorem txS_ok {ys : List Int} (h : ys.length ≤ 4096) : txS [] false ys = (leb ys.length ++ ys, false) := by
  have h2 := leb2 h
  have e1 : pS [] false (leb ys.length) = (leb ys.length, false) := by
    unfold pS
    rw [if_neg (by simp; omega)]
    simp
  unfold txS
  rw [if_neg (by omega), e1]
  dsimp only
  unfold pS
  rw [if_neg (by simp; omega)]
theorem packL_rng {ps : List CPrt} (h : ∀ p ∈ ps, ∀ x ∈ p.xs, 0 ≤ x ∧ x ≤ 255) : ∀ x ∈ packL ps, 0 ≤ x ∧ x ≤ 255 := by
  intro x hx
  obtain ⟨p, hp, hx⟩ := List.mem_flatMap.1 hx
  exact (List.mem_append.1 hx).elim (leb_bd _ x) (h p hp x)
theorem packL_le (ps : List CPrt) (i : Nat) : (packL (ps.take i)).length ≤ (packL ps).length := by
  have h : packL ps = packL (ps.take i) ++ packL (ps.drop i) := by
    unfold packL
    rw [← List.flatMap_append, List.take_append_drop]
  rw [h]; simp
theorem bk_ob {b : Option Addr} {cap : Nat} {xs : List Int} (h : BK b cap xs.length) : OB b (xs.map (Value.int .u8)) := h.2.2.imp (fun ⟨h1, h2⟩ => ⟨h1, by rw [List.eq_nil_of_length_eq_zero h2]; rfl⟩) id
set_option maxRecDepth 100000 in
set_option maxHeartbeats 4000000 in
theorem packed_ok (gs : Nat) (at_ : Bool) (ga : Nat) (ba : Option Addr) (ca : Nat) (ha : Hd) (bsa : List Int) (fra gb : Nat) (bb : Option Addr) (cb : Nat) (hb : Hd) (bsb : List Int) (frb room gd : Nat) (ap : Option Addr) (cp0 : Nat) (ps : List CPrt) (rm : Nat) (hrm : rm ≤ 60000) (hps4 : ∀ p ∈ ps, p.len ≤ 4096) (hfit : (packL ps).length ≤ rm) (hpn : ps.length ≤ 1000000) (w : World) (hS : Has (StL gs at_ ga ba ca ha bsa fra gb bb cb hb bsb frb room gd) w) (hps : ∀ p ∈ ps, p.Ok w) (hO : SlE CPrt.v w ap ps) :
    CA Tryd.prog 23 [.pointer (some ⟨gs, 0, none⟩), .slice ap ps.length cp0, .int .i64 (rm : Int)] w (Ret (fun z : Option Addr × Nat => .tuple #[.slice z.1 (packL ps).length z.2, .nilIface]) [] (fun z => [.sl z.1 z.2 5 1 ((packL ps).map (Value.int .u8))]) (fun z => BK z.1 z.2 (packL ps).length) w) := by
  refine enter (L := (StL gs at_ ga ba ca ha bsa fra gb bb cb hb bsb frb room gd)) (X := []) Tryd.func23 rfl Tryd.ntmps23 rfl rfl hS ?_
  repeat (first | refine c_seq ?_ | (refine c_region (id := 0) ?_; refine sq qa ?_; refine sq qa ?_; refine l_nil ?_) | (refine c_region (id := 1) ?_; refine sq qm ?_; refine se ?_; refine ecp rfl rfl (fun w hC hm hL => by exact sover_c gs at_ ga ba ca ha bsa fra gb bb cb hb bsb frb room gd w (hL.sub (by (repeat (first | exact List.nil_sublist _ | exact List.Sublist.slnil | apply List.Sublist.cons_cons | exact List.Sublist.refl _ | apply List.Sublist.cons))))) ?_; intro m' hm'; refine l_nil ?_) | (refine c_region (id := 3) ?_; refine sq qa ?_; refine l_nil ?_) | (refine c_region (id := 4) ?_; refine sq qm ?_; refine sq qls ?_; refine sq qm ?_; refine l_nil ?_) | refine n_then ?_ | refine c_block ?_ | refine c_skip ?_ | refine n_block ?_ | refine c_exit ?_ | refine n_then_exit ?_ | refine n_block_eq ?_ | refine n_block_ne rfl ?_ | refine c_ret ?_ | refine n_then_ret ?_ | refine n_block_ret ?_ | refine c_cond_t rfl ?_ | refine c_cond_f rfl ?_ | refine r_succ ?_ )
  refine add_nil 5 1 ?_
  refine c_loop (γ := Nat × Option Addr × Nat × Nat) (fun z => [(22, .int .i64 z.1), (20, .slice ap ps.length cp0), (21, .int .i64 ps.length), (8, .slice z.2.1 (packL (ps.take z.1)).length z.2.2.1), (2, .int .i64 (rm : Int))]) (fun z => z.2.2.2) (fun z => [.sl z.2.1 z.2.2.1 5 1 ((packL (ps.take z.1)).map (Value.int .u8))]) (fun z => z.1 ≤ ps.length ∧ OS [] w.heap.size z.2.1 z.2.2.1 (packL (ps.take z.1)).length ∧ w.heap.size ≤ z.2.2.2) (fun z => ps.length - z.1) ⟨0, none, 0, m'⟩ ⟨by simp, OS.nil _ _, by dsimp only; omega⟩ ⟨rfl, rfl, rfl, rfl, rfl, trivial⟩ rfl (by exact (by (repeat (first | exact List.nil_sublist _ | exact List.Sublist.slnil | apply List.Sublist.cons_cons | exact List.Sublist.refl _ | apply List.Sublist.cons)))) ?_
  rintro ⟨i, b, cap, mm⟩ ⟨hi, ho, hmm⟩
  dsimp only at hi ho hmm ⊢
  have hle := packL_le ps i
  by_cases h8 : i < ps.length
  · obtain ⟨p, hp⟩ : ∃ p, ps[i]? = some p := ⟨_, List.getElem?_eq_getElem h8⟩
    have hpk := hps p (List.mem_of_getElem? hp)
    have hp4 := hps4 p (List.mem_of_getElem? hp)
    have hpl := hpk.l
    have hlb := leb2 (n := p.xs.length) (by omega)
    have hyl : (leb p.xs.length ++ p.xs).length = (leb p.xs.length).length + p.xs.length := List.length_append
    obtain ⟨g0, o0, rfl, hOl⟩ := hO.get h8
    have hn9 : nth (ps.map CPrt.v) i = some (.slice p.a p.len p.cap) := nth_map hp
    repeat (first | refine c_seq ?_ | (refine c_region (id := 5) ?_; refine sq (by first | exact dlsst | exact dlssf) ?_; refine l_nil ?_) | (refine c_region (id := 6) ?_; refine sq (by exact qis (o' := o0 + i) (ho := by omega)) ?_; refine sq (by exact ql (hr := Rd.oldn hOl hn9 (by simp))) ?_; refine sq qa ?_; refine l_nil ?_) | (refine c_region (id := 7) ?_; refine se ?_; refine ea ?_; refine l_nil ?_) | refine n_then ?_ | refine c_block ?_ | refine c_skip ?_ | refine n_block ?_ | refine c_exit ?_ | refine n_then_exit ?_ | refine n_block_eq ?_ | refine n_block_ne rfl ?_ | refine c_ret ?_ | refine n_then_ret ?_ | refine n_block_ret ?_ | refine c_cond_t rfl ?_ | refine c_cond_f rfl ?_ | refine r_succ ?_ )
    refine add_nil 5 1 ?_
    repeat (first | refine c_seq ?_ | (refine c_region (id := 8) ?_; refine sq qm ?_; refine se ?_; refine e_callX (OutL mm none 0 [] false) _ rfl rfl (by kernel_rfl) rfl (by (repeat (first | exact Sp.nil | (apply Sp.cons; focus (repeat (first | exact Rm.here | apply Rm.there)))))) (fun w hC hm hA hL hap => by have h9 := text_c mm none 0 [] false (by simp) (by simp) (OS.nil _ _) w hA p.a p.len p.cap p.xs hpl hpk.c hpk.r (by omega) (hpk.s.ch0 hC) (fun g o e hl hg => by have h5 := hpk.lt g o e (by omega); simp [feet, Chunk.foot] at hg; omega); rw [txS_ok (by omega)] at h9; exact h9) (by intro g hg; simp [feet, Chunk.foot] at hg; exact .inr (by omega)) (fun _ => rfl) ?_; intro z4 m4 hz4 hn4 hm4; obtain ⟨b4, cap4⟩ := z4; dsimp only at hz4 ⊢; refine l_nil ?_) | (refine c_region (id := 9) ?_; refine se ?_; refine ecl rfl rfl (fun w hC hm hL => by exact endok_c mm b4 cap4 (leb p.xs.length ++ p.xs) (by rw [hyl]; omega) w (hL.old (k := 2) (by (repeat (first | exact List.Mem.head _ | apply List.Mem.tail))) (by rfl)) (SlE.own hL (by (repeat (first | exact List.Mem.head _ | apply List.Mem.tail))) hz4)) ?_; intro z5 m5 hz5 hn5 hm5; obtain ⟨b5, cap5⟩ := z5; dsimp only at hz5 ⊢; refine sq qm ?_; refine sq qe ?_; refine sq qe ?_; refine sq qa ?_; refine sq qa ?_; refine l_nil ?_) | (refine c_region (id := 10) ?_; refine sq qm ?_; refine sq (by first | exact dneqt | exact dneqf) ?_; refine l_nil ?_) | (refine c_region (id := 12) ?_; refine sq qm ?_; refine sq qm ?_; refine se ?_; refine e_appE (Value.int .u8) (packL (ps.take i)) (leb p.xs.length ++ p.xs) rfl rfl rfl (by (repeat (first | exact Rm.here | apply Rm.there))) (Vw.own (bk_ob hz5.ret) (by (repeat (first | exact List.Mem.head _ | apply List.Mem.tail)))) rfl rfl ho (allOne_u8L _) (by omega) (by omega) ?_; intro b2 cap2 m2 ho2 hm2; refine sq qa ?_; refine l_nil ?_) | (refine c_region (id := 13) ?_; refine sq qadd64 ?_; refine sq qm ?_; refine l_nil ?_) | refine n_then ?_ | refine c_block ?_ | refine c_skip ?_ | refine n_block ?_ | refine c_exit ?_ | refine n_then_exit ?_ | refine n_block_eq ?_ | refine n_block_ne rfl ?_ | refine c_ret ?_ | refine n_then_ret ?_ | refine n_block_ret ?_ | refine c_cond_t rfl ?_ | refine c_cond_f rfl ?_ | refine r_succ ?_ )
    refine c_round ⟨i + 1, b2, cap2, m2⟩ ⟨by dsimp only; omega, by rw [packL_succ hp, List.length_append]; exact ho2, by dsimp only; omega⟩ (by dsimp only; omega) ⟨rfl, rfl, rfl, by rw [packL_succ hp]; simp only [List.length_append]; rfl, rfl, trivial⟩ (by rfl) (by dsimp only; rw [packL_succ hp]; exact (by (repeat (first | exact List.nil_sublist _ | exact List.Sublist.slnil | apply List.Sublist.cons_cons | exact List.Sublist.refl _ | apply List.Sublist.cons))))
  · obtain rfl : i = ps.length := by omega
    rw [List.take_length] at hle ho ⊢
    repeat (first | refine c_seq ?_ | (refine c_region (id := 5) ?_; refine sq (by first | exact dlsst | exact dlssf) ?_; refine l_nil ?_) | (refine c_region (id := 14) ?_; refine sq qm ?_; refine sq qls ?_; refine sq qm ?_; refine sq (by first | exact dgtrt | exact dgtrf) ?_; refine l_nil ?_) | (refine c_region (id := 16) ?_; refine sq qm ?_; refine sq qa ?_; refine sq qa ?_; refine l_nil ?_) | refine n_then ?_ | refine c_block ?_ | refine c_skip ?_ | refine n_block ?_ | refine c_exit ?_ | refine n_then_exit ?_ | refine n_block_eq ?_ | refine n_block_ne rfl ?_ | refine c_ret ?_ | refine n_then_ret ?_ | refine n_block_ret ?_ | refine c_cond_t rfl ?_ | refine c_cond_f rfl ?_ | refine r_succ ?_ )
    (first | apply r_ret (b, cap) | apply r_end (b, cap)); exact rfl; exact rfl; exact (.tmp rfl (.tmp rfl .nil)); exact rfl; exact (by exact (by (repeat (first | exact List.nil_sublist _ | exact List.Sublist.slnil | apply List.Sublist.cons_cons | exact List.Sublist.refl _ | apply List.Sublist.cons)))); exact (new_sl ho.newc new_nil); exact ho.ret
end Go.Proofs.YtgmghkakiocmjaaDoor
namespace Go.Proofs.YtgmghkakiocmjaaDoor
open Go Go.RowKit
set_option linter.unusedVariables false
set_option linter.unusedSimpArgs false
theorem CPrt.Ok.chn {w w' : World} {p : CPrt} {X : List Nat} (h : p.Ok w) (hC : Ch X w w') (hx : ∀ g o, p.a = some ⟨g, o, none⟩ → 0 < p.xs.length → g ∉ X) : p.Ok w' := ⟨h.s.chn hC hx, h.l, h.c, h.r⟩
abbrev StD (gs : Nat) (at_ : Bool) (ga : Nat) (ba : Option Addr) (ca : Nat) (ha : Hd) (bsa : List Int) (fra : Nat) (gb : Nat) (bb : Option Addr) (cb : Nat) (hb : Hd) (bsb : List Int) (frb room gd gw gm : Nat) (D : Dk) : List Chunk :=
  .blk gs (.cells (stC at_ ga gb) 55 (0, 0)) :: .sl ba ca 5 1 ((bsa).map (Value.int .u8)) :: LgB ga gd fra room ha (.slice ba bsa.length ca) false :: .sl bb cb 5 1 ((bsb).map (Value.int .u8)) :: LgB gb gd frb room hb (.slice bb bsb.length cb) false :: DskL gd gw gm D
set_option maxRecDepth 100000 in
set_option maxHeartbeats 4000000 in
theorem add_y (gs : Nat) (at_ : Bool) (ga : Nat) (ba : Option Addr) (ca : Nat) (ha : Hd) (bsa : List Int) (fra gb : Nat) (bb : Option Addr) (cb : Nat) (hb : Hd) (bsb : List Int) (frb room gd : Nat) (gw gm : Nat) (D : Dk) (nd : Nat) (hok : D.OK nd) (hbka : BK ba ca bsa.length) (hla : bsa.length ≤ room) (hroom : room ≤ 60000) (hfit : fra + 2 + (room + 63) / 64 ≤ nd) (hse : 0 ≤ ha.ser ∧ ha.ser < 4611686018427387904) (ap : Option Addr) (cp0 : Nat) (ps : List CPrt) (hps4 : ∀ p ∈ ps, p.len ≤ 4096) (hfp : bsa.length + (packL ps).length ≤ room) (hpn : ps.length ≤ 1000000) (h1 : Hd) (pp : Nat) (hpp : (pp : Int) = h1.ser % 2) (hs1 : h1.ser = ha.ser + 1) (hc1 : h1.cnt = (bsa ++ packL ps).length) (hnt1 : h1.nt = ha.nt) (r : Bool × Dk) (hr : r = appR fra pp h1 bsa (packL ps) D) (hrt : r.1 = true) (w : World) (hS : Has (StD gs at_ ga ba ca ha bsa fra gb bb cb hb bsb frb room gd gw gm D) w) (hps : ∀ p ∈ ps, p.Ok w) (hO : SlE CPrt.v w ap ps) (hpx : ∀ p ∈ ps, ∀ g o, p.a = some ⟨g, o, none⟩ → 0 < p.xs.length → g ∉ (feet (LogL ga gd gw gm fra room ha ba ca bsa D))) (hox : ∀ g o, ap = some ⟨g, o, none⟩ → 0 < ps.length → g ∉ (feet (LogL ga gd gw gm fra room ha ba ca bsa D))) (hne : 0 < ps.length) :
    CA Tryd.prog 9 [.pointer (some ⟨gs, 0, none⟩), .slice ap ps.length cp0] w (Ret (fun _ : Option Addr × Nat => .int .i64 0) (feet (LogL ga gd gw gm fra room ha ba ca bsa D)) (fun z => LogL ga gd gw gm fra room h1 z.1 z.2 (bsa ++ packL ps) r.2) (fun z => BK z.1 z.2 (bsa ++ packL ps).length) w) := by
  refine enter (L := (StD gs at_ ga ba ca ha bsa fra gb bb cb hb bsb frb room gd gw gm D)) (X := (feet (LogL ga gd gw gm fra room ha ba ca bsa D))) Tryd.func9 rfl Tryd.ntmps9 rfl rfl hS ?_
  repeat (first | refine c_seq ?_ | (refine c_region (id := 0) ?_; refine sq qa ?_; refine l_nil ?_) | (refine c_region (id := 1) ?_; refine sq qm ?_; refine sq qm ?_; refine sq qm ?_; refine se ?_; refine ecp rfl rfl (fun w hC hm hL => by have h9 := sroom_c gs at_ ga ba ca ha bsa fra gb bb cb hb bsb frb room gd ⟨hla, by omega⟩ w (hL.sub (by (repeat (first | exact List.nil_sublist _ | exact List.Sublist.slnil | apply List.Sublist.cons_cons | exact List.Sublist.refl _ | apply List.Sublist.cons)))); rw [show ((room : Int) - bsa.length) = ((room - bsa.length : Nat) : Int) by omega] at h9; exact h9) ?_; intro m' hm'; refine se ?_; refine ecl rfl rfl (fun w hC hm hL => by exact packed_ok gs at_ ga ba ca ha bsa fra gb bb cb hb bsb frb room gd ap cp0 ps (room - bsa.length) (by omega) hps4 (by omega) (by omega) w (hL.sub (by (repeat (first | exact List.nil_sublist _ | exact List.Sublist.slnil | apply List.Sublist.cons_cons | exact List.Sublist.refl _ | apply List.Sublist.cons)))) (fun p hp => (hps p hp).chn hC (fun g o e hl => hpx p hp g o e hl)) (hO.chn hC hox)) ?_; intro z5 m5 hz5 hn5 hm5; obtain ⟨b5, cap5⟩ := z5; dsimp only at hz5 ⊢; refine sq qm ?_; refine sq qe ?_; refine sq qe ?_; refine sq qa ?_; refine sq qa ?_; refine l_nil ?_) | (refine c_region (id := 2) ?_; refine sq qm ?_; refine sq (by exact q_neq_nn (hx := rfl)) ?_; refine l_nil ?_) | (refine c_region (id := 4) ?_; refine sq qm ?_; refine sq qls ?_; refine sq (by first | exact deqlt | exact deqlf) ?_; refine sq qm ?_; (first | refine sk ?_ | refine skv ?_ | (refine st_want rfl rfl ?_; refine sq qm ?_)); (first | refine sk ?_ | refine skv ?_ | (refine st_want rfl rfl ?_; refine se ?_; refine ecp rfl rfl (fun w hC hm hL => by exact slog_c at_ gs ga gb w (hL.old (k := 3) (by (repeat (first | exact List.Mem.head _ | apply List.Mem.tail))) (by cases at_ <;> rfl))) ?_; intro m' hm')); (first | refine sk ?_ | refine skv ?_ | (refine st_want rfl rfl ?_; refine se ?_; fail)); (first | refine sk ?_ | refine skv ?_ | (refine st_want rfl rfl ?_; refine sq (by first | exact dlsst | exact dlssf) ?_)); refine sq (by first | exact qpt | exact qpf) ?_; refine l_nil ?_) | refine n_then ?_ | refine c_block ?_ | refine c_skip ?_ | refine n_block ?_ | refine c_exit ?_ | refine n_then_exit ?_ | refine n_block_eq ?_ | refine n_block_ne rfl ?_ | refine c_ret ?_ | refine n_then_ret ?_ | refine n_block_ret ?_ | refine c_cond_t rfl ?_ | refine c_cond_f rfl ?_ | refine r_succ ?_ )
  repeat (first | refine c_seq ?_ | (refine c_region (id := 6) ?_; refine sq qm ?_; refine se ?_; refine ecp rfl rfl (fun w hC hm hL => by exact slog_c at_ gs ga gb w (hL.old (k := 3) (by (repeat (first | exact List.Mem.head _ | apply List.Mem.tail))) (by cases at_ <;> rfl))) ?_; intro m' hm'; refine sq qm ?_; refine sq qm ?_; refine se ?_; refine ecp rfl rfl (fun w hC hm hL => by exact slog_c at_ gs ga gb w (hL.old (k := 3) (by (repeat (first | exact List.Mem.head _ | apply List.Mem.tail))) (by cases at_ <;> rfl))) ?_; intro m' hm'; refine se ?_; refine ecp rfl rfl (fun w hC hm hL => by exact note_c ga gd fra room ha _ false w (hL.sub (by (repeat (first | exact List.nil_sublist _ | exact List.Sublist.slnil | apply List.Sublist.cons_cons | exact List.Sublist.refl _ | apply List.Sublist.cons))))) ?_; intro m' hm'; refine se ?_; refine e_callX (LogL ga gd gw gm fra room ha ba ca bsa D) _ rfl rfl (by kernel_rfl) rfl (by (repeat (first | exact Sp.nil | (apply Sp.cons; focus (repeat (first | exact Rm.here | apply Rm.there)))))) (fun w hC hm hA hL hap => by have h9 := append_y ga gd gw gm fra room ha h1 ba ca bsa D nd hok (os_log hbka.1 hbka.2.1 hbka.2.2) hla (by omega) hfit ⟨hse.1, hse.2⟩ pp hpp hs1 b5 (packL ps).length cap5 (packL ps) hc1 rfl (by omega) (SlE.own hL (by (repeat (first | exact List.Mem.head _ | apply List.Mem.tail))) (os_bk hz5)) (fun g o e _ => apart_sl (by (repeat (first | exact List.Mem.head _ | apply List.Mem.tail))) hap g o e) r hr hrt hA; rw [hnt1] at h9; exact h9) (fun g hg => .inl hg) (fun _ => rfl) ?_; intro z6 m6 hz6 hn6 hm6; obtain ⟨b6, cap6⟩ := z6; dsimp only at hz6 ⊢; refine se ?_; refine ecp rfl rfl (fun w hC hm hL => by exact failed_ok _ w) ?_; intro m' hm'; refine se ?_; refine ecp rfl rfl (fun w hC hm hL => by exact told_ok w) ?_; intro m' hm'; refine sq qa ?_; refine l_nil ?_) | refine n_then ?_ | refine c_block ?_ | refine c_skip ?_ | refine n_block ?_ | refine c_exit ?_ | refine n_then_exit ?_ | refine n_block_eq ?_ | refine n_block_ne rfl ?_ | refine c_ret ?_ | refine n_then_ret ?_ | refine n_block_ret ?_ | refine c_cond_t rfl ?_ | refine c_cond_f rfl ?_ | refine r_succ ?_ )
  refine fgs (A := LogL ga gd gw gm fra room h1 b6 cap6 (bsa ++ packL ps) r.2) (by (repeat (first | exact Sp.nil | (apply Sp.cons; focus (repeat (first | exact Rm.here | apply Rm.there)))))) ?_
  (first | apply r_ret (b6, cap6) | apply r_end (b6, cap6)); exact rfl; exact rfl; exact (.tmp rfl .nil); exact rfl; exact (List.Sublist.refl _); exact hn6; exact hz6
set_option maxRecDepth 100000 in
set_option maxHeartbeats 4000000 in
theorem add_0 (gs : Nat) (at_ : Bool) (ga : Nat) (ba : Option Addr) (ca : Nat) (ha : Hd) (bsa : List Int) (fra gb : Nat) (bb : Option Addr) (cb : Nat) (hb : Hd) (bsb : List Int) (frb room gd : Nat) (gw gm : Nat) (D : Dk) (hla : bsa.length ≤ room) (hroom : room ≤ 60000) (hse : 0 ≤ ha.ser ∧ ha.ser < 4611686018427387904) (ap : Option Addr) (cp0 : Nat) (w : World) (hS : Has (StD gs at_ ga ba ca ha bsa fra gb bb cb hb bsb frb room gd gw gm D) w) :
    CA Tryd.prog 9 [.pointer (some ⟨gs, 0, none⟩), .slice ap 0 cp0] w (RV (.int .i64 0) w) := by
  refine enter (L := (StD gs at_ ga ba ca ha bsa fra gb bb cb hb bsb frb room gd gw gm D)) (X := []) Tryd.func9 rfl Tryd.ntmps9 rfl rfl hS ?_
  repeat (first | refine c_seq ?_ | (refine c_region (id := 0) ?_; refine sq qa ?_; refine l_nil ?_) | (refine c_region (id := 1) ?_; refine sq qm ?_; refine sq qm ?_; refine sq qm ?_; refine se ?_; refine ecp rfl rfl (fun w hC hm hL => by have h9 := sroom_c gs at_ ga ba ca ha bsa fra gb bb cb hb bsb frb room gd ⟨hla, by omega⟩ w (hL.sub (by (repeat (first | exact List.nil_sublist _ | exact List.Sublist.slnil | apply List.Sublist.cons_cons | exact List.Sublist.refl _ | apply List.Sublist.cons)))); rw [show ((room : Int) - bsa.length) = ((room - bsa.length : Nat) : Int) by omega] at h9; exact h9) ?_; intro m' hm'; refine se ?_; refine ecl rfl rfl (fun w hC hm hL => by exact packed_ok gs at_ ga ba ca ha bsa fra gb bb cb hb bsb frb room gd ap cp0 [] (room - bsa.length) (by omega) (by simp) (by simp [packL]) (by simp) w (hL.sub (by (repeat (first | exact List.nil_sublist _ | exact List.Sublist.slnil | apply List.Sublist.cons_cons | exact List.Sublist.refl _ | apply List.Sublist.cons)))) (by simp) SlE.nil) ?_; intro z5 m5 hz5 hn5 hm5; obtain ⟨b5, cap5⟩ := z5; dsimp only at hz5 ⊢; refine sq qm ?_; refine sq qe ?_; refine sq qe ?_; refine sq qa ?_; refine sq qa ?_; refine l_nil ?_) | (refine c_region (id := 2) ?_; refine sq qm ?_; refine sq (by exact q_neq_nn (hx := rfl)) ?_; refine l_nil ?_) | (refine c_region (id := 4) ?_; refine sq qm ?_; refine sq qls ?_; refine sq (by first | exact deqlt | exact deqlf) ?_; refine sq qm ?_; (first | refine sk ?_ | refine skv ?_ | (refine st_want rfl rfl ?_; refine sq qm ?_)); (first | refine sk ?_ | refine skv ?_ | (refine st_want rfl rfl ?_; refine se ?_; refine ecp rfl rfl (fun w hC hm hL => by exact slog_c at_ gs ga gb w (hL.old (k := 3) (by (repeat (first | exact List.Mem.head _ | apply List.Mem.tail))) (by cases at_ <;> rfl))) ?_; intro m' hm')); (first | refine sk ?_ | refine skv ?_ | (refine st_want rfl rfl ?_; refine se ?_; refine ecp rfl rfl (fun w hC hm hL => by exact serial_c ga gd fra room ha _ false w (hL.sub (by (repeat (first | exact List.nil_sublist _ | exact List.Sublist.slnil | apply List.Sublist.cons_cons | exact List.Sublist.refl _ | apply List.Sublist.cons))))) ?_; intro m' hm')); (first | refine sk ?_ | refine skv ?_ | (refine st_want rfl rfl ?_; refine sq (by first | exact dlsst | exact dlssf) ?_)); refine sq (by first | exact qpt | exact qpf) ?_; refine l_nil ?_) | (refine c_region (id := 5) ?_; refine sq qa ?_; refine l_nil ?_) | refine n_then ?_ | refine c_block ?_ | refine c_skip ?_ | refine n_block ?_ | refine c_exit ?_ | refine n_then_exit ?_ | refine n_block_eq ?_ | refine n_block_ne rfl ?_ | refine c_ret ?_ | refine n_then_ret ?_ | refine n_block_ret ?_ | refine c_cond_t rfl ?_ | refine c_cond_f rfl ?_ | refine r_succ ?_ )
  (first | apply r_ret () | apply r_end ()); exact rfl; exact rfl; exact (.tmp rfl .nil); exact rfl; exact (List.nil_sublist _); exact new_nil; exact trivial
set_option maxRecDepth 100000 in
set_option maxHeartbeats 4000000 in
theorem rsame_eq (ps qs : List CPrt) (ap aq : Option Addr) (cp cq : Nat) (he : ps.map (·.xs) = qs.map (·.xs)) (hn : ps.length ≤ 1000000) (w : World) (hps : ∀ p ∈ ps, p.Ok w) (hqs : ∀ p ∈ qs, p.Ok w) (hO : SlE CPrt.v w ap ps) (hQ : SlE CPrt.v w aq qs) :
    CA Tryd.prog 10 [.slice ap ps.length cp, .slice aq qs.length cq] w (RV (.bool true) w) := by
  have hl : ps.length = qs.length := by have := congrArg List.length he; simpa using this
  refine enter (L := []) (X := []) Tryd.func10 rfl Tryd.ntmps10 rfl rfl (Has.nil _) ?_
  repeat (first | refine c_seq ?_ | (refine c_region (id := 0) ?_; refine sq qa ?_; refine l_nil ?_) | (refine c_region (id := 1) ?_; refine sq qm ?_; refine sq qls ?_; refine sq qm ?_; refine sq qls ?_; refine sq (by first | exact dneqt | exact dneqf) ?_; refine l_nil ?_) | (refine c_region (id := 3) ?_; refine sq qa ?_; refine l_nil ?_) | refine n_then ?_ | refine c_block ?_ | refine c_skip ?_ | refine n_block ?_ | refine c_exit ?_ | refine n_then_exit ?_ | refine n_block_eq ?_ | refine n_block_ne rfl ?_ | refine c_ret ?_ | refine n_then_ret ?_ | refine n_block_ret ?_ | refine c_cond_t rfl ?_ | refine c_cond_f rfl ?_ | refine r_succ ?_ )
  refine c_loop (γ := Nat) (fun i => [(5, .int .i64 i), (0, .slice ap ps.length cp), (1, .slice aq qs.length cq)]) (fun _ => w.heap.size) (fun _ => []) (fun i => i ≤ ps.length) (fun i => ps.length - i) 0 (by simp) ⟨rfl, rfl, rfl, trivial⟩ rfl (List.nil_sublist _) ?_
  intro i hi
  by_cases h8 : i < ps.length
  · obtain ⟨p, hp⟩ : ∃ p, ps[i]? = some p := ⟨_, List.getElem?_eq_getElem h8⟩
    obtain ⟨q, hq⟩ : ∃ q, qs[i]? = some q := ⟨_, List.getElem?_eq_getElem (by omega)⟩
    have hpk := hps p (List.mem_of_getElem? hp)
    have hqk := hqs q (List.mem_of_getElem? hq)
    have hxy : p.xs = q.xs := by
      have h9 : (ps.map (·.xs))[i]? = (qs.map (·.xs))[i]? := by rw [he]
      simpa [hp, hq] using h9
    obtain ⟨g1, o1, rfl, hOl⟩ := hO.get h8
    obtain ⟨g2, o2, rfl, hOr⟩ := hQ.get (i := i) (by omega)
    have hn1 : nth (ps.map CPrt.v) i = some (.slice p.a p.len p.cap) := nth_map hp
    have hn2 : nth (qs.map CPrt.v) i = some (.slice q.a q.len q.cap) := nth_map hq
    repeat (first | refine c_seq ?_ | (refine c_region (id := 4) ?_; refine sq qm ?_; refine sq qm ?_; refine sq qls ?_; refine sq (by first | exact dlsst | exact dlssf) ?_; refine l_nil ?_) | (refine c_region (id := 5) ?_; refine sq qm ?_; refine sq qadd64 ?_; refine sq qa ?_; refine l_nil ?_) | (refine x_region (id := 6) none [(0, .n), (1, .n), (2, .n), (3, .q), (4, .q), (5, .n), (6, .n), (7, .n), (8, .q), (9, .q), (10, .n)] _ mixed (by kernel_rfl) (List.Sublist.refl _) ?_; refine xn rfl qm ?_; refine xn rfl qm ?_; refine xn rfl (by exact qis (o' := o1 + i) (ho := by omega)) ?_; refine xq rfl (by exact ql (hr := Rd.oldn hOl hn1 (by simp))) ?_; refine xq rfl (by exact qcb rfl hpk.s.vw hpk.l) ?_; refine xn rfl qm ?_; refine xn rfl qm ?_; refine xn rfl (by exact qis (o' := o2 + i) (ho := by omega)) ?_; refine xq rfl (by exact ql (hr := Rd.oldn hOr hn2 (by simp))) ?_; refine xq rfl (by exact qcb rfl hqk.s.vw hqk.l) ?_; refine xn rfl (by exact Qt.cast (v' := .bool false) (congrArg Value.bool (by rw [hxy, beq_self_eq_true]; rfl)) (q_neq_str rfl rfl)) ?_; refine x_nil ?_) | refine n_then ?_ | refine c_block ?_ | refine c_skip ?_ | refine n_block ?_ | refine c_exit ?_ | refine n_then_exit ?_ | refine n_block_eq ?_ | refine n_block_ne rfl ?_ | refine c_ret ?_ | refine n_then_ret ?_ | refine n_block_ret ?_ | refine c_cond_t rfl ?_ | refine c_cond_f rfl ?_ | refine r_succ ?_ )
    refine c_round (i + 1) (by omega) (by omega) ⟨rfl, rfl, rfl, trivial⟩ rfl (List.nil_sublist _)
  · obtain rfl : i = ps.length := by omega
    repeat (first | refine c_seq ?_ | (refine c_region (id := 4) ?_; refine sq qm ?_; refine sq qm ?_; refine sq qls ?_; refine sq (by first | exact dlsst | exact dlssf) ?_; refine l_nil ?_) | (refine c_region (id := 8) ?_; refine sq qa ?_; refine l_nil ?_) | refine n_then ?_ | refine c_block ?_ | refine c_skip ?_ | refine n_block ?_ | refine c_exit ?_ | refine n_then_exit ?_ | refine n_block_eq ?_ | refine n_block_ne rfl ?_ | refine c_ret ?_ | refine n_then_ret ?_ | refine n_block_ret ?_ | refine c_cond_t rfl ?_ | refine c_cond_f rfl ?_ | refine r_succ ?_ )
    (first | apply r_ret () | apply r_end ()); exact rfl; exact rfl; exact (.tmp rfl .nil); exact rfl; exact (List.nil_sublist _); exact new_nil; exact trivial
end Go.Proofs.YtgmghkakiocmjaaDoor
namespace Go.Proofs.YtgmghkakiocmjaaDoor
open Go Go.RowKit
set_option linter.unusedVariables false
set_option linter.unusedSimpArgs false
theorem hpkP (m : Nat) : packL [(⟨some ⟨m, 0, none⟩, 1, 1, [120]⟩ : CPrt)] = [1, 120] := by
  show leb 1 ++ [120] ++ [] = _
  rw [leb_small (by decide)]; rfl
theorem rec1 : recs (([] : List Int) ++ [1, 120]) = [[120]] := by
  have h := recs_ok (ys := [1, 120]) (x := 1) (n := 1) (by rfl) (by decide) (by decide) (by decide)
  rw [List.nil_append, h]
  rfl
set_option maxRecDepth 100000 in
set_option maxHeartbeats 4000000 in
theorem sawk_c (w : World) : CA Tryd.prog 6 [] w (RV (.bool true) w) := by
  obtain ⟨h1, hh1⟩ : ∃ h1 : Hd, h1 = ⟨1, (([] : List Int) ++ [1, 120]).length, hdZ.nt⟩ := ⟨_, rfl⟩
  have hK1 : HdK h1 := by
    rw [hh1]
    exact ⟨⟨by decide, by decide⟩, ⟨by decide, by decide⟩, RB.zero, fun j hj => rfl⟩
  obtain ⟨r, hr⟩ : ∃ r, r = appR 0 1 h1 [] [1, 120] (Dk.new 6) := ⟨_, rfl⟩
  have hrt : r.1 = true := by
    rw [hr]
    exact ((LogAt.new 6 0 3).append (by decide) (by omega) ⟨rfl, rfl⟩ (RG.new 6) hK1 (by rw [hh1]; rfl) (by decide) (by rw [hh1]) (by simp) (by simp) 1 (by rw [hh1]; rfl)).1
  have hrc := rec1
  refine enter (L := []) (X := []) Tryd.func6 rfl Tryd.ntmps6 rfl rfl (Has.nil _) ?_
  repeat (first | refine c_seq ?_ | (refine c_region (id := 0) ?_; refine sq qa ?_; refine l_nil ?_) | (refine c_region (id := 1) ?_; refine se ?_; refine ecl rfl rfl (fun w hC hm hL => by exact newd_c 6 (by omega) w) ?_; intro z1 m1 _ hn1 hm1; obtain ⟨gd1, gw1, gm1⟩ := z1; have hg1 : w.heap.size ≤ gd1 ∧ w.heap.size ≤ gw1 ∧ w.heap.size ≤ gm1 := ⟨(by have h9 := hn1 gd1 (by simp [feetD]); omega), (by have h9 := hn1 gw1 (by simp [feetD]); omega), (by have h9 := hn1 gm1 (by simp [feetD]); omega)⟩; clear hn1; dsimp only; refine chg (L' := DskL gd1 gw1 gm1 (Dk.new 6)) (by rfl) ?_; refine se ?_; refine ecl rfl rfl (fun w hC hm hL => by exact sopen_0 gd1 gw1 gm1 (Dk.new 6) rfl (by decide) (RG.new 6) (by decide) 3 (by decide) hdZ hdZ [] [] (LogAt.new 6 0 3) (LogAt.new 6 3 3) hdZ_K hdZ_K (Int.lt_irrefl _) w (hL.sub (by (repeat (first | exact List.nil_sublist _ | exact List.Sublist.slnil | apply List.Sublist.cons_cons | exact List.Sublist.refl _ | apply List.Sublist.cons))))) ?_; intro z2 m2 hz2 hn2 hm2; obtain ⟨gs2, ⟨ga2, ba2, ca2⟩, ⟨gb2, bb2, cb2⟩⟩ := z2; have hqs2 : w.heap.size ≤ gs2 := (by have := hn2 gs2 (by simp [feet, Chunk.foot]); omega); have hqa2 : w.heap.size ≤ ga2 := (by have := hn2 ga2 (by simp [feet, Chunk.foot]); omega); have hqb2 : w.heap.size ≤ gb2 := (by have := hn2 gb2 (by simp [feet, Chunk.foot]); omega); have hba2 : ∀ g, ba2 = some ⟨g, 0, none⟩ → w.heap.size ≤ g := (fun g e => by have := hn2 g (by simp [feet, Chunk.foot, e]); omega); have hbb2 : ∀ g, bb2 = some ⟨g, 0, none⟩ → w.heap.size ≤ g := (fun g e => by have := hn2 g (by simp [feet, Chunk.foot, e]); omega); dsimp only at hz2 ⊢; refine sq qm ?_; refine sq qe ?_; refine sq qe ?_; refine sq qa ?_; refine sq qa ?_; refine l_nil ?_) | refine n_then ?_ | refine c_block ?_ | refine c_skip ?_ | refine n_block ?_ | refine c_exit ?_ | refine n_then_exit ?_ | refine n_block_eq ?_ | refine n_block_ne rfl ?_ | refine c_ret ?_ | refine n_then_ret ?_ | refine n_block_ret ?_ | refine c_cond_t rfl ?_ | refine c_cond_f rfl ?_ | refine r_succ ?_ )
  have hpk0 : ∀ m, packL [(⟨some ⟨m, 0, none⟩, 1, 1, [120]⟩ : CPrt)] = [1, 120] := hpkP
  repeat (first | refine c_seq ?_ | (refine c_region (id := 2) ?_; refine sq qm ?_; refine sq (by first | exact deqlt | exact deqlf) ?_; refine sq qm ?_; (first | refine sk ?_ | refine skv ?_ | (refine st_want rfl rfl ?_; refine sq qm ?_)); (first | refine sk ?_ | refine skv ?_ | (refine st_want rfl rfl ?_; refine sq (by exact q_neq_pnil rfl rfl (by kernel_rfl)) ?_)); refine sq (by first | exact qpt | exact qpf) ?_; refine sq qm ?_; (first | refine sk ?_ | refine skv ?_ | (refine st_want rfl rfl ?_; refine sq qm ?_)); (first | refine sk ?_ | refine skv ?_ | (refine st_want rfl rfl ?_; refine se ?_; refine ecp rfl rfl (fun w hC hm hL => by have h9 := sroom_c gs2 false ga2 ba2 ca2 hdZ [] 0 gb2 bb2 cb2 hdZ [] 3 ((3 - 2) * 64) gd1 (by simp) w (Has.sel hL (by (repeat (first | exact Sel.nil | (refine Sel.cons (by (repeat (first | exact Rm.here | apply Rm.there))) ?_))))); rw [List.length_nil] at h9; exact h9) ?_; intro m' hm')); (first | refine sk ?_ | refine skv ?_ | (refine st_want rfl rfl ?_; refine sq (by first | exact deqlt | exact deqlf) ?_)); refine sq (by first | exact qpt | exact qpf) ?_; refine sq qm ?_; (first | refine sk ?_ | refine skv ?_ | (refine st_want rfl rfl ?_; refine sq qm ?_)); (first | refine sk ?_ | refine skv ?_ | (refine st_want rfl rfl ?_; refine se ?_; refine ebs ?_)); (first | refine sk ?_ | refine skv ?_ | (refine st_want rfl rfl ?_; refine se ?_; refine e_conv_const rfl rfl (by (repeat (first | exact Pl.here | apply Pl.there))) (by first | (left; simp; done) | (right; omega)) ?_)); (first | refine sk ?_ | refine skv ?_ | (refine st_want rfl rfl ?_; refine se ?_; refine ebs ?_)); (first | refine sk ?_ | refine skv ?_ | (refine st_want rfl rfl ?_; refine se ?_; refine e_callX (LogL ga2 gd1 gw1 gm1 0 ((3 - 2) * 64) hdZ ba2 ca2 [] (Dk.new 6)) _ rfl rfl (by kernel_rfl) rfl (by (repeat (first | exact Sp.nil | (apply Sp.cons; focus (repeat (first | exact Rm.here | apply Rm.there)))))) (fun w hC hm hA hL hap => by have h9 := add_y gs2 false ga2 ba2 ca2 hdZ [] 0 gb2 bb2 cb2 hdZ [] 3 ((3 - 2) * 64) gd1 gw1 gm1 (Dk.new 6) 6 (Dk.OK.new 6 (by decide)) hz2.1 (by simp) (by omega) (by omega) ⟨by decide, by decide⟩ (some ⟨m' + 1, 0, none⟩) 1 [(⟨some ⟨m', 0, none⟩, 1, 1, [120]⟩ : CPrt)] (by simp) (by rw [hpk0]; simp) (by simp) h1 1 (by rw [hh1]; rfl) (by rw [hh1]; rfl) (by rw [hh1, hpk0]) (by rw [hh1]) r (by rw [hpk0]; exact hr) hrt w (Has.sel (has_app hL hA hap) (by (repeat (first | exact Sel.nil | (refine Sel.cons (by (repeat (first | exact Rm.here | apply Rm.there))) ?_))))) (fun p hp => by simp only [List.mem_singleton] at hp; subst hp; exact ⟨SlE.blk hL (by (repeat (first | exact List.Mem.head _ | apply List.Mem.tail))) 0 1 (by rfl), rfl, Nat.le_refl _, by simp⟩) (SlE.blk (enc := CPrt.v) hL (by (repeat (first | exact List.Mem.head _ | apply List.Mem.tail))) 0 1 (by rfl)) (fun p hp g o e _ => by simp only [List.mem_singleton] at hp; subst hp; exact apart_blk (by (repeat (first | exact List.Mem.head _ | apply List.Mem.tail))) hap g o e) (fun g o e _ => apart_blk (by (repeat (first | exact List.Mem.head _ | apply List.Mem.tail))) hap g o e) (by simp); rw [hpk0] at h9; exact h9) (by intro g hg; simp only [feet, List.flatMap_cons, List.mem_append] at hg; rcases hg with h9 | h9; exact bk_new hz2.1 hba2 g h9; (simp [Chunk.foot] at h9; exact .inr (by omega))) (fun _ => rfl) ?_; intro z6 m6 hz6 hn6 hm6; obtain ⟨b6, cap6⟩ := z6; dsimp only at hz6 ⊢)); (first | refine sk ?_ | refine skv ?_ | (refine st_want rfl rfl ?_; refine sq (by first | exact deqlt | exact deqlf) ?_)); refine sq (by first | exact qpt | exact qpf) ?_; refine sq qm ?_; (first | refine sk ?_ | refine skv ?_ | (refine st_want rfl rfl ?_; refine sq qm ?_)); (first | refine sk ?_ | refine skv ?_ | (refine st_want rfl rfl ?_; refine se ?_; refine ecl rfl rfl (fun w hC hm hL => by exact records_c gs2 false ga2 b6 cap6 h1 ([] ++ [1, 120]) 0 gb2 bb2 cb2 hdZ [] 3 ((3 - 2) * 64) gd1 (by omega) (by simp) (by simp) hz6 w (Has.sel hL (by (repeat (first | exact Sel.nil | (refine Sel.cons (by (repeat (first | exact Rm.here | apply Rm.there))) ?_)))))) ?_; intro z7 m7 hz7 hn7 hm7; obtain ⟨b7, cap7, ps7⟩ := z7; dsimp only at hz7 ⊢; have hl7 : ps7.length = 1 := (by have h8 := congrArg List.length hz7.2.1; rw [hrc] at h8; simpa using h8))); (first | refine sk ?_ | refine skv ?_ | (refine st_want rfl rfl ?_; refine sq qls ?_)); (first | refine sk ?_ | refine skv ?_ | (refine st_want rfl rfl ?_; refine sq (by first | exact deqlt | exact deqlf) ?_)); refine sq (by first | exact qpt | exact qpf) ?_; refine sq qa ?_; refine l_nil ?_) | refine n_then ?_ | refine c_block ?_ | refine c_skip ?_ | refine n_block ?_ | refine c_exit ?_ | refine n_then_exit ?_ | refine n_block_eq ?_ | refine n_block_ne rfl ?_ | refine c_ret ?_ | refine n_then_ret ?_ | refine n_block_ret ?_ | refine c_cond_t rfl ?_ | refine c_cond_f rfl ?_ | refine r_succ ?_ )
  (first | apply r_ret () | apply r_end ()); exact rfl; exact rfl; exact (.tmp rfl .nil); exact rfl; exact (List.nil_sublist _); exact new_nil; exact trivial
end Go.Proofs.YtgmghkakiocmjaaDoor
namespace Go.Proofs.YtgmghkakiocmjaaDoor
open Go Go.RowKit
set_option linter.unusedVariables false
set_option linter.unusedSimpArgs false
structure OpI where
  kd : Int
  x : Int
  i : Int
  a : Option Addr
  len : Nat
  cap : Nat
  xs : List Int
def OpI.enc (p : OpI) : List Value := [.int .u8 p.kd, .int .u8 p.x, .int .i64 p.i, .slice p.a p.len p.cap]
structure OpI.Ok (w : World) (p : OpI) : Prop where
  s : SlE (Value.int .u8) w p.a p.xs
  l : p.xs.length = p.len
  c : p.len ≤ p.cap
  m : p.len ≤ 9223372036854775807
  k : 0 ≤ p.kd ∧ p.kd ≤ 255
  xb : 0 ≤ p.x ∧ p.x ≤ 255
  ib : -9223372036854775808 ≤ p.i ∧ p.i ≤ 9223372036854775807
  r : ∀ x ∈ p.xs, 0 ≤ x ∧ x ≤ 255
theorem OpI.Ok.ch0 {w w' : World} {p : OpI} (h : p.Ok w) (hC : Ch [] w w') : p.Ok w' := ⟨h.s.ch0 hC, h.l, h.c, h.m, h.k, h.xb, h.ib, h.r⟩
theorem LogAt.head {D : Dk} {fr kn : Nat} {h h' : Hd} {bs bs' : List Int} (hl : LogAt D fr kn h bs) (hfr : fr + kn ≤ D.secs.length) (hk : 3 ≤ kn) (hf : D.Free) (hg : RG D) (hK : HdK h') (hs : h'.ser = h.ser + 1) (hs0 : 0 ≤ h.ser) (hc : h'.cnt = bs'.length) (hroom : bs'.length ≤ (kn - 2) * 64) (hb : rmL (fun i => D.at (fr + i)) bs'.length = bs') (p : Nat) (hp : (p : Int) = h'.ser % 2) :
    WF [(fr + p, secH h')] D (wrAll [(fr + p, secH h')] D) ∧ LogAt (wrAll [(fr + p, secH h')] D).2 fr kn h' bs' := by
  have hp2 : p < 2 := by omega
  have hw := wrAll_free [(fr + p, secH h')] D (fun e he => by simp only [List.mem_singleton] at he; subst he; exact ⟨by dsimp only; omega, secH_RB hK⟩) hf hg
  have hat := wrHead_at (fr + p) (secH h') D hf (by omega)
  refine ⟨hw, ⟨?_, hc, hroom, ?_⟩⟩
  · refine next_head hl.st hK hs hs0 (by rw [hc]; exact_mod_cast hroom) p hp ?_ ?_
    · rw [hat, if_pos rfl]
    · rw [hat, if_neg (by omega)]
  · refine rmL_ext fun q hq => ?_
    rw [hat, if_neg (by omega)]
    exact rmL_get hb q hq
end Go.Proofs.YtgmghkakiocmjaaDoor
namespace Go.Proofs.YtgmghkakiocmjaaDoor
open Go Go.RowKit
set_option linter.unusedVariables false
set_option linter.unusedSimpArgs false
structure PP where
  kd : Nat
  x : Nat
  a : Option Addr
  len : Nat
  cap : Nat
  xs : List Int
def PP.enc (p : PP) : List Value := [.int .u8 (p.kd : Int), .int .u64 (p.x : Int), .slice p.a p.len p.cap]
structure PP.Ok (w : World) (p : PP) : Prop where
  s : SlE (Value.int .u8) w p.a p.xs
  l : p.xs.length = p.len
  c : p.len ≤ p.cap
  m : p.len ≤ 9223372036854775807
  r : ∀ x ∈ p.xs, 0 ≤ x ∧ x ≤ 255
  k : p.kd < 256
  x : p.x < 18446744073709551616
def putX (xs : List Int) (lg : Bool) (kd x : Nat) (ys : List Int) : List Int × Bool :=
  if kd % 4 = 0 then pS xs lg (leb x) else if kd % 4 = 1 then txS xs lg ys else if kd % 4 = 2 then pS xs lg ys else pS xs lg [if decide (x % 2 = 1) = true then 1 else 0]
end Go.Proofs.YtgmghkakiocmjaaDoor
namespace Go.Proofs.YtgmghkakiocmjaaDoor
open Go Go.RowKit
set_option linter.unusedVariables false
set_option linter.unusedSimpArgs false
def PP.bytes (p : PP) : List Int := if p.kd % 4 = 0 then leb p.x else if p.kd % 4 = 1 then leb p.xs.length ++ p.xs else if p.kd % 4 = 2 then p.xs else [if decide (p.x % 2 = 1) = true then 1 else 0]
def PP.put (s : List Int × Bool) (p : PP) : List Int × Bool := putX s.1 s.2 p.kd p.x p.xs
theorem leb_len_pos (x : Nat) : (leb x).length ≠ 0 := by
  by_cases h : x < 128
  · rw [leb_small h]; simp
  · rw [leb_big h]; simp
theorem numF_leb (r : List Int) (x : Nat) : ∀ (n0 acc : Nat), x * 128 ^ n0 < 18446744073709551616 → n0 ≤ 9 → (0 < n0 → x ≠ 0) → numF (leb x ++ r) n0 acc = (acc + x * 128 ^ n0, n0 + (leb x).length) := by
  induction x using Nat.strongRecOn with
  | ind x ih =>
    intro n0 acc hx hn h0
    have h99 : (128 : Nat) ^ 9 = 9223372036854775808 := by decide
    by_cases h : x < 128
    · rw [leb_small h]
      simp only [List.singleton_append, numF, Int.toNat_natCast]
      rw [if_pos h, if_neg (fun hh => h0 hh.2 hh.1), if_neg (by rintro ⟨rfl, h2⟩; rw [h99] at hx; omega)]
      rfl
    · rw [leb_big h]
      simp only [List.cons_append, numF, Int.toNat_natCast]
      have hn9 : n0 ≠ 9 := by rintro rfl; rw [h99] at hx; omega
      have e1 : (x / 128) * 128 ^ (n0 + 1) ≤ x * 128 ^ n0 := pow_step (Nat.le_refl _)
      rw [if_neg (by omega), if_neg hn9, ih (x / 128) (by omega) (n0 + 1) _ (by omega) (by omega) (fun _ => by omega)]
      have e2 : (x % 128 + 128) % 128 = x % 128 := by omega
      rw [e2]
      have e3 : x * 128 ^ n0 = x % 128 * 128 ^ n0 + x / 128 * 128 ^ (n0 + 1) := by
        rw [Nat.pow_succ, Nat.mul_comm (128 ^ n0) 128, ← Nat.mul_assoc, ← Nat.add_mul]
        congr 1
        omega
      rw [e3, List.length_cons]
      congr 1
      · omega
      · omega
theorem numX_leb {x : Nat} (r : List Int) (hx : x < 18446744073709551616) : numX (leb x ++ r) = (x, (leb x).length) := by
  unfold numX
  rw [numF_leb r x 0 0 (by simpa using hx) (by omega) (by omega)]
  simp
end Go.Proofs.YtgmghkakiocmjaaDoor
namespace Go.Proofs.YtgmghkakiocmjaaDoor
open Go Go.RowKit
set_option linter.unusedVariables false
set_option linter.unusedSimpArgs false
theorem appR_at {fr p : Nat} {h' : Hd} {bs ys : List Int} {D : Dk} (hf : D.Free) (hg : RG D) (hK : HdK h') (hp : p < 2) (hx : ∀ x ∈ bs ++ ys, 0 ≤ x ∧ x ≤ 255) (hfit : fr + 2 + ((bs ++ ys).length + 63) / 64 ≤ D.secs.length) (j : Nat) (hj : j < fr ∨ fr + 2 + ((bs ++ ys).length + 63) / 64 ≤ j) : (appR fr p h' bs ys D).2.at j = D.at j := by
  have hlen : (bs ++ ys).length = bs.length + ys.length := List.length_append
  unfold appR
  by_cases hy : ys = []
  · subst hy
    rw [if_pos rfl, wrHead_at _ _ D hf (by omega), if_neg (by omega)]
  · rw [if_neg hy]
    have hw := wrAll_free (rmW fr (bs ++ ys) (((bs ++ ys).length + 63) / 64 - bs.length / 64) (bs.length / 64)) D (fun e he => ⟨by have := rmW_lt _ _ e he; omega, rmW_RB hx _ _ e he⟩) hf hg
    have hat := wrRoom_at fr (bs ++ ys) (((bs ++ ys).length + 63) / 64 - bs.length / 64) (bs.length / 64) D hf (by omega)
    rw [if_pos hw.ok, wrHead_at _ _ _ hw.free (by rw [hw.len]; omega), if_neg (by omega), hat, if_neg (by omega)]
theorem LogAt.cong {D D' : Dk} {fr kn : Nat} {h : Hd} {bs : List Int} (hl : LogAt D fr kn h bs) (hk : 3 ≤ kn) (he : ∀ j, j < kn → D'.at (fr + j) = D.at (fr + j)) : LogAt D' fr kn h bs := by
  have hle := hl.le
  refine ⟨?_, hl.cnt, hl.le, ?_⟩
  · rw [← hl.st]
    exact stI_at (he 0 (by omega)) (he 1 (by omega))
  · refine rmL_ext fun q hq => ?_
    have h9 := rmL_get hl.bytes q hq
    try dsimp only at h9 ⊢
    rw [he _ (by omega)]
    exact h9
theorem recs_pack (ps : List CPrt) (h : ∀ p ∈ ps, p.xs.length ≤ 4096) : recs (packL ps) = ps.map (·.xs) := by
  induction ps with
  | nil => rfl
  | cons p ps ih =>
    have e : packL (p :: ps) = leb p.xs.length ++ (p.xs ++ packL ps) := by simp [packL]
    have hp := h p (List.mem_cons_self ..)
    have h9 := recs_ok (ys := packL (p :: ps)) (x := p.xs.length) (n := (leb p.xs.length).length) (by rw [e]; exact numX_leb _ (by omega)) (leb_len_pos _) hp (by rw [e]; simp)
    rw [h9, e, List.drop_left, List.take_left, ← List.append_assoc, List.drop_append_of_le_length (by simp), List.drop_of_length_le (by simp), List.nil_append, ih (fun q hq => h q (List.mem_cons_of_mem _ hq))]
    rfl
theorem packL_one (p : CPrt) : packL [p] = leb p.xs.length ++ p.xs := by simp [packL]
theorem packL_snoc {ps : List CPrt} {i : Nat} {p : CPrt} (h : ps[i]? = some p) : packL (ps.take (i + 1)) = packL (ps.take i) ++ packL [p] := by rw [packL_one]; exact packL_succ h
structure SG (ps : List CPrt) (i : Nat) (D : Dk) (h : Hd) : Prop where
  ok : D.OK 200
  fre : D.Free
  rg : RG D
  la : LogAt D 0 100 h (packL (ps.take i))
  lb : LogAt D 100 100 hdZ []
  K : HdK h
  ser : h.ser = i
  nt : h.nt = hdZ.nt
  len : (packL (ps.take i)).length ≤ 101 * i
  rng : ∀ x ∈ packL (ps.take i), 0 ≤ x ∧ x ≤ 255
theorem SG.zero (ps : List CPrt) : SG ps 0 (Dk.new 200) hdZ :=
  ⟨Dk.OK.new 200 (by decide), ⟨rfl, rfl⟩, RG.new 200, LogAt.new 200 0 100, LogAt.new 200 100 100, hdZ_K, rfl, rfl, by simp [packL], by simp [packL]⟩
theorem SG.next {ps : List CPrt} {i : Nat} {D : Dk} {h : Hd} (hJ : SG ps i D h) (hi : i < 20) {p : CPrt} (hp : ps[i]? = some p) (hl : p.xs.length ≤ 100) (hr : ∀ x ∈ p.xs, 0 ≤ x ∧ x ≤ 255) (pp : Nat) (h1 : Hd) (hh1 : h1 = ⟨(i : Int) + 1, (packL (ps.take i) ++ packL [p]).length, h.nt⟩) (hpp : (pp : Int) = h1.ser % 2) : (appR 0 pp h1 (packL (ps.take i)) (packL [p]) D).1 = true ∧ SG ps (i + 1) (appR 0 pp h1 (packL (ps.take i)) (packL [p]) D).2 h1 := by
  have hlen := hJ.len
  have hser := hJ.ser
  have hp1 : (packL [p]).length = 1 + p.xs.length := by rw [packL_one, leb_small (by omega)]; simp; omega
  have hal : (packL (ps.take i) ++ packL [p]).length = (packL (ps.take i)).length + (packL [p]).length := List.length_append
  have hK : HdK h1 := by
    rw [hh1]
    exact ⟨⟨by dsimp only; omega, by dsimp only; omega⟩, ⟨by dsimp only; omega, by dsimp only; omega⟩, hJ.K.nt, hJ.K.hi⟩
  have hrr : ∀ x ∈ packL (ps.take i) ++ packL [p], 0 ≤ x ∧ x ≤ 255 := fun x hx => (List.mem_append.1 hx).elim (hJ.rng x) (packL_rng (ps := [p]) (by simpa using hr) x)
  obtain ⟨k1, k2, k3, k4, k5, k6, k7⟩ := hJ.la.append (h' := h1) (ys := packL [p]) (by rw [hJ.ok.len]; decide) (by omega) hJ.fre hJ.rg hK (by rw [hh1]; dsimp only; omega) (by omega) (by rw [hh1]) (by omega) hrr pp hpp
  have hat := fun j hj => appR_at (fr := 0) (p := pp) (h' := h1) (bs := packL (ps.take i)) (ys := packL [p]) hJ.fre hJ.rg hK (by omega) hrr (by rw [hJ.ok.len]; omega) j hj
  refine ⟨k1, appR_OK hJ.ok (by omega) (by omega), k3, k4, by rw [packL_snoc hp]; exact k2, hJ.lb.cong (by omega) (fun j hj => hat _ (by omega)), hK, by rw [hh1]; dsimp only; omega, by rw [hh1]; exact hJ.nt, by rw [packL_snoc hp, hal]; omega, by rw [packL_snoc hp]; exact hrr⟩
end Go.Proofs.YtgmghkakiocmjaaDoor
namespace Go.Proofs.YtgmghkakiocmjaaDoor
open Go Go.RowKit
set_option linter.unusedVariables false
set_option linter.unusedSimpArgs false
set_option maxRecDepth 100000 in
set_option maxHeartbeats 4000000 in
theorem sgrows_law (ps : List CPrt) (ap : Option Addr) (cp0 : Nat) (hpc : ps.length ≤ 9223372036854775807) (w : World) (hps : ∀ p ∈ ps, p.Ok w ∧ p.len ≤ 9223372036854775807) (hO : SlE CPrt.v w ap ps) :
    CA Tryd.prog 3 [.slice ap ps.length cp0] w (RV (.bool true) w) := by
  by_cases h20 : 20 < ps.length
  · refine enter (L := []) (X := []) Tryd.func3 rfl Tryd.ntmps3 rfl rfl (Has.nil _) ?_
    repeat (first | refine c_seq ?_ | (refine c_region (id := 0) ?_; refine sq qa ?_; refine l_nil ?_) | (refine c_region (id := 1) ?_; refine se ?_; refine ecp rfl rfl (fun w hC hm hL => sawk_c w) ?_; intro m' hm'; refine sq qnt ?_; refine sq qm ?_; (first | refine sk ?_ | refine skv ?_ | (refine st_want rfl rfl ?_; refine sq qm ?_)); (first | refine sk ?_ | refine skv ?_ | (refine st_want rfl rfl ?_; refine sq qls ?_)); (first | refine sk ?_ | refine skv ?_ | (refine st_want rfl rfl ?_; refine sq (by first | exact dgtrt | exact dgtrf) ?_)); refine sq (by first | exact qpt | exact qpf) ?_; refine l_nil ?_) | (refine c_region (id := 2) ?_; refine se ?_; refine ecp rfl rfl (fun w hC hm hL => sawk_c w) ?_; intro m' hm'; refine sq qa ?_; refine l_nil ?_) | refine n_then ?_ | refine c_block ?_ | refine c_skip ?_ | refine n_block ?_ | refine c_exit ?_ | refine n_then_exit ?_ | refine n_block_eq ?_ | refine n_block_ne rfl ?_ | refine c_ret ?_ | refine n_then_ret ?_ | refine n_block_ret ?_ | refine c_cond_t rfl ?_ | refine c_cond_f rfl ?_ | refine r_succ ?_ )
    (first | apply r_ret () | apply r_end ()); exact rfl; exact rfl; exact (.tmp rfl .nil); exact rfl; exact (List.nil_sublist _); exact new_nil; exact trivial
  have hD0 : (Dk.new 200).secs.length = 200 := (Dk.OK.new 200 (by decide)).len
  refine enter (L := []) (X := []) Tryd.func3 rfl Tryd.ntmps3 rfl rfl (Has.nil _) ?_
  repeat (first | refine c_seq ?_ | (refine c_region (id := 0) ?_; refine sq qa ?_; refine l_nil ?_) | (refine c_region (id := 1) ?_; refine se ?_; refine ecp rfl rfl (fun w hC hm hL => sawk_c w) ?_; intro m' hm'; refine sq qnt ?_; refine sq qm ?_; (first | refine sk ?_ | refine skv ?_ | (refine st_want rfl rfl ?_; refine sq qm ?_)); (first | refine sk ?_ | refine skv ?_ | (refine st_want rfl rfl ?_; refine sq qls ?_)); (first | refine sk ?_ | refine skv ?_ | (refine st_want rfl rfl ?_; refine sq (by first | exact dgtrt | exact dgtrf) ?_)); refine sq (by first | exact qpt | exact qpf) ?_; refine l_nil ?_) | (refine c_region (id := 3) ?_; refine se ?_; refine ecl rfl rfl (fun w hC hm hL => by exact newd_c 200 (by omega) w) ?_; intro z1 m1 _ hn1 hm1; obtain ⟨gd1, gw1, gm1⟩ := z1; have hg1 : w.heap.size ≤ gd1 ∧ w.heap.size ≤ gw1 ∧ w.heap.size ≤ gm1 := ⟨(by have h9 := hn1 gd1 (by simp [feetD]); omega), (by have h9 := hn1 gw1 (by simp [feetD]); omega), (by have h9 := hn1 gm1 (by simp [feetD]); omega)⟩; clear hn1; dsimp only; refine chg (L' := DskL gd1 gw1 gm1 (Dk.new 200)) (by rfl) ?_; refine se ?_; refine ecl rfl rfl (fun w hC hm hL => by exact newd_c 200 (by omega) w) ?_; intro z2 m2 _ hn2 hm2; obtain ⟨gd2, gw2, gm2⟩ := z2; have hg2 : w.heap.size ≤ gd2 ∧ w.heap.size ≤ gw2 ∧ w.heap.size ≤ gm2 := ⟨(by have h9 := hn2 gd2 (by simp [feetD]); omega), (by have h9 := hn2 gw2 (by simp [feetD]); omega), (by have h9 := hn2 gm2 (by simp [feetD]); omega)⟩; clear hn2; dsimp only; refine chg (L' := DskL gd2 gw2 gm2 (Dk.new 200) ++ DskL gd1 gw1 gm1 (Dk.new 200)) (by rfl) ?_; refine sq qa ?_; refine sq qa ?_; refine l_nil ?_) | (refine c_region (id := 4) ?_; refine sq qm ?_; refine se ?_; refine ecl rfl rfl (fun w hC hm hL => by exact sopen_0 gd1 gw1 gm1 (Dk.new 200) rfl (by rw [hD0]; decide) (RG.new 200) (by rw [hD0]; decide) 100 (by rw [hD0]) hdZ hdZ [] [] (LogAt.new 200 0 100) (LogAt.new 200 100 100) hdZ_K hdZ_K (Int.lt_irrefl _) w (hL.sub (by (repeat (first | exact List.nil_sublist _ | exact List.Sublist.slnil | apply List.Sublist.cons_cons | exact List.Sublist.refl _ | apply List.Sublist.cons))))) ?_; intro z5 m5 hz5 hn5 hm5; obtain ⟨gs5, ⟨ga5, ba5, ca5⟩, ⟨gb5, bb5, cb5⟩⟩ := z5; have hqs5 : w.heap.size ≤ gs5 := (by have := hn5 gs5 (by simp [feet, Chunk.foot]); omega); have hqa5 : w.heap.size ≤ ga5 := (by have := hn5 ga5 (by simp [feet, Chunk.foot]); omega); have hqb5 : w.heap.size ≤ gb5 := (by have := hn5 gb5 (by simp [feet, Chunk.foot]); omega); have hba5 : ∀ g, ba5 = some ⟨g, 0, none⟩ → w.heap.size ≤ g := (fun g e => by have := hn5 g (by simp [feet, Chunk.foot, e]); omega); have hbb5 : ∀ g, bb5 = some ⟨g, 0, none⟩ → w.heap.size ≤ g := (fun g e => by have := hn5 g (by simp [feet, Chunk.foot, e]); omega); dsimp only at hz5 ⊢; have hXA5 : ∀ g ∈ feet (LogL ga5 gd1 gw1 gm1 0 ((100 - 2) * 64) hdZ ba5 ca5 [] (Dk.new 200)), w.heap.size ≤ g := (fun g hg => by simp only [feet, List.flatMap_cons, List.mem_append] at hg; rcases hg with h9 | h9; exact (bk_new (X := []) hz5.1 hba5 g h9).elim (fun h => by simp at h) id; (simp [Chunk.foot] at h9; omega)); refine sq qm ?_; refine sq qe ?_; refine sq qe ?_; refine sq qa ?_; refine sq qa ?_; refine l_nil ?_) | (refine c_region (id := 5) ?_; refine sq qm ?_; refine sq (by first | exact dneqt | exact dneqf) ?_; refine l_nil ?_) | (refine c_region (id := 7) ?_; refine sq qa ?_; refine l_nil ?_) | refine n_then ?_ | refine c_block ?_ | refine c_skip ?_ | refine n_block ?_ | refine c_exit ?_ | refine n_then_exit ?_ | refine n_block_eq ?_ | refine n_block_ne rfl ?_ | refine c_ret ?_ | refine n_then_ret ?_ | refine n_block_ret ?_ | refine c_cond_t rfl ?_ | refine c_cond_f rfl ?_ | refine r_succ ?_ )
  refine fgs (A := DskL gd2 gw2 gm2 (Dk.new 200) ++ [.blk gs5 (.cells (stC false ga5 gb5) 55 (0, 0)), .sl ba5 ca5 5 1 (([]).map (Value.int .u8)), LgB ga5 gd1 0 ((100 - 2) * 64) hdZ (.slice ba5 [].length ca5) false, .sl bb5 cb5 5 1 (([]).map (Value.int .u8)), LgB gb5 gd1 100 ((100 - 2) * 64) hdZ (.slice bb5 [].length cb5) false] ++ DskL gd1 gw1 gm1 (Dk.new 200)) (by (repeat (first | exact Sp.nil | (apply Sp.cons; focus (repeat (first | exact Rm.here | apply Rm.there)))))) ?_
  refine c_loop (γ := Nat × Dk × Hd × Nat) (fun z => [(7, .int .i64 z.1), (5, .pointer (some ⟨gs5, 0, none⟩)), (4, .pointer (some ⟨gd2, 0, none⟩)), (2, .bool false), (0, .slice ap ps.length cp0)]) (fun z => z.2.2.2) (fun z => DskL gd2 gw2 gm2 z.2.1 ++ [.blk gs5 (.cells (stC false ga5 gb5) 55 (0, 0)), .sl ba5 ca5 5 1 (([]).map (Value.int .u8)), LgB ga5 gd1 0 ((100 - 2) * 64) hdZ (.slice ba5 [].length ca5) false, .sl bb5 cb5 5 1 (([]).map (Value.int .u8)), LgB gb5 gd1 100 ((100 - 2) * 64) hdZ (.slice bb5 [].length cb5) false] ++ DskL gd1 gw1 gm1 (Dk.new 200)) (fun z => z.1 ≤ ps.length ∧ SG ps z.1 z.2.1 z.2.2.1 ∧ (∀ q ∈ ps.take z.1, q.len ≤ 100) ∧ w.heap.size ≤ z.2.2.2) (fun z => ps.length - z.1) ⟨0, (Dk.new 200), hdZ, m5⟩ ⟨by simp, SG.zero ps, by simp, by dsimp only; omega⟩ ⟨rfl, rfl, rfl, rfl, rfl, trivial⟩ rfl (List.Sublist.refl _) ?_
  rintro ⟨i, D, h, mm⟩ ⟨hi, hJ, hsm, hmm⟩
  dsimp only at hi hJ hsm hmm ⊢
  have hlen := hJ.len
  have hser := hJ.ser
  by_cases h8 : i < ps.length
  · obtain ⟨p, hp⟩ : ∃ p, ps[i]? = some p := ⟨_, List.getElem?_eq_getElem h8⟩
    have hpk := hps p (List.mem_of_getElem? hp)
    have hpl := hpk.1.l
    obtain ⟨g0, o0, rfl, hOl⟩ := hO.get h8
    have hn9 : nth (ps.map CPrt.v) i = some (.slice p.a p.len p.cap) := nth_map hp
    by_cases h100 : 100 < p.len
    · repeat (first | refine c_seq ?_ | (refine c_region (id := 8) ?_; refine sq qm ?_; refine sq qm ?_; refine sq qls ?_; refine sq (by first | exact dlsst | exact dlssf) ?_; refine l_nil ?_) | (refine c_region (id := 10) ?_; refine sq qm ?_; refine sq qm ?_; refine sq (by exact qis (o' := o0 + i) (ho := by omega)) ?_; refine sq (by exact ql (hr := Rd.oldn hOl hn9 (by simp))) ?_; refine sq qls ?_; refine sq (by first | exact dgtrt | exact dgtrf) ?_; refine l_nil ?_) | (refine c_region (id := 11) ?_; refine sq qa ?_; refine l_nil ?_) | refine n_then ?_ | refine c_block ?_ | refine c_skip ?_ | refine n_block ?_ | refine c_exit ?_ | refine n_then_exit ?_ | refine n_block_eq ?_ | refine n_block_ne rfl ?_ | refine c_ret ?_ | refine n_then_ret ?_ | refine n_block_ret ?_ | refine c_cond_t rfl ?_ | refine c_cond_f rfl ?_ | refine r_succ ?_ )
      (first | apply r_ret () | apply r_end ()); exact rfl; exact rfl; exact (.tmp rfl .nil); exact rfl; exact (List.nil_sublist _); exact new_nil; exact trivial
    obtain ⟨h1, hh1⟩ : ∃ h1 : Hd, h1 = ⟨(i : Int) + 1, ((packL (ps.take i)) ++ packL [p]).length, h.nt⟩ := ⟨_, rfl⟩
    have hs1 : h1.ser = h.ser + 1 := by rw [hh1]; dsimp only; omega
    obtain ⟨pp, hpp⟩ : ∃ pp : Nat, (pp : Int) = h1.ser % 2 := ⟨(h1.ser % 2).toNat, by omega⟩
    obtain ⟨hrt, hJ2⟩ := hJ.next (by omega) hp (by omega) hpk.1.r pp h1 hh1 hpp
    obtain ⟨r, hr⟩ : ∃ r, r = appR 0 pp h1 (packL (ps.take i)) (packL [p]) D := ⟨_, rfl⟩
    rw [← hr] at hrt hJ2
    have hp1 : (packL [p]).length = 1 + p.xs.length := by rw [packL_one, leb_small (by omega)]; simp; omega
    have hle8 : (packL (ps.take i)).length ≤ ((100 - 2) * 64) := by omega
    have hfp8 : (packL (ps.take i)).length + (packL [p]).length ≤ ((100 - 2) * 64) := by omega
    have hsm2 : ∀ q ∈ ps.take (i + 1), q.len ≤ 100 := by
      intro q hq
      rw [List.take_add_one, hp] at hq
      rcases List.mem_append.1 hq with h9 | h9
      · exact hsm q h9
      · simp at h9; rw [h9]; omega
    repeat (first | refine c_seq ?_ | (refine c_region (id := 8) ?_; refine sq qm ?_; refine sq qm ?_; refine sq qls ?_; refine sq (by first | exact dlsst | exact dlssf) ?_; refine l_nil ?_) | (refine c_region (id := 9) ?_; refine sq qm ?_; refine sq qadd64 ?_; refine sq qa ?_; refine l_nil ?_) | (refine c_region (id := 10) ?_; refine sq qm ?_; refine sq qm ?_; refine sq (by exact qis (o' := o0 + i) (ho := by omega)) ?_; refine sq (by exact ql (hr := Rd.oldn hOl hn9 (by simp))) ?_; refine sq qls ?_; refine sq (by first | exact dgtrt | exact dgtrf) ?_; refine l_nil ?_) | (refine c_region (id := 12) ?_; refine sq qm ?_; refine se ?_; refine ecl rfl rfl (fun w hC hm hL => by exact sopen_0 gd2 gw2 gm2 D hJ.fre.go (by rw [hJ.ok.len]; decide) hJ.rg (by rw [hJ.ok.len]; decide) 100 (by rw [hJ.ok.len]) h hdZ (packL (ps.take i)) [] hJ.la hJ.lb hJ.K hdZ_K (by unfold genH; rw [hJ.nt]; exact Int.lt_irrefl _) w (hL.sub (by (repeat (first | exact List.nil_sublist _ | exact List.Sublist.slnil | apply List.Sublist.cons_cons | exact List.Sublist.refl _ | apply List.Sublist.cons))))) ?_; intro z8 m8 hz8 hn8 hm8; obtain ⟨gs8, ⟨ga8, ba8, ca8⟩, ⟨gb8, bb8, cb8⟩⟩ := z8; have hqs8 : w.heap.size ≤ gs8 := (by have := hn8 gs8 (by simp [feet, Chunk.foot]); omega); have hqa8 : w.heap.size ≤ ga8 := (by have := hn8 ga8 (by simp [feet, Chunk.foot]); omega); have hqb8 : w.heap.size ≤ gb8 := (by have := hn8 gb8 (by simp [feet, Chunk.foot]); omega); have hba8 : ∀ g, ba8 = some ⟨g, 0, none⟩ → w.heap.size ≤ g := (fun g e => by have := hn8 g (by simp [feet, Chunk.foot, e]); omega); have hbb8 : ∀ g, bb8 = some ⟨g, 0, none⟩ → w.heap.size ≤ g := (fun g e => by have := hn8 g (by simp [feet, Chunk.foot, e]); omega); dsimp only at hz8 ⊢; have hXA8 : ∀ g ∈ feet (LogL ga8 gd2 gw2 gm2 0 ((100 - 2) * 64) h ba8 ca8 (packL (ps.take i)) D), w.heap.size ≤ g := (fun g hg => by simp only [feet, List.flatMap_cons, List.mem_append] at hg; rcases hg with h9 | h9; exact (bk_new (X := []) hz8.1 hba8 g h9).elim (fun h => by simp at h) id; (simp [Chunk.foot] at h9; omega)); refine sq qm ?_; refine sq qe ?_; refine sq qe ?_; refine sq qa ?_; refine sq qa ?_; refine l_nil ?_) | (refine c_region (id := 13) ?_; refine sq qm ?_; refine sq (by first | exact dneqt | exact dneqf) ?_; refine sq qm ?_; (first | refine sk ?_ | refine skv ?_ | (refine st_want rfl rfl ?_; refine sq qm ?_)); (first | refine sk ?_ | refine skv ?_ | (refine st_want rfl rfl ?_; refine sq qm ?_)); (first | refine sk ?_ | refine skv ?_ | (refine st_want rfl rfl ?_; refine sq qm ?_)); (first | refine sk ?_ | refine skv ?_ | (refine st_want rfl rfl ?_; refine sq (by exact qis (o' := o0 + i) (ho := by omega)) ?_)); (first | refine sk ?_ | refine skv ?_ | (refine st_want rfl rfl ?_; refine sq (by exact ql (hr := Rd.oldn hOl hn9 (by simp))) ?_)); (first | refine sk ?_ | refine skv ?_ | (refine st_want rfl rfl ?_; refine se ?_; refine ebs ?_)); (first | refine sk ?_ | refine skv ?_ | (refine st_want rfl rfl ?_; refine se ?_; refine e_callX (LogL ga8 gd2 gw2 gm2 0 ((100 - 2) * 64) h ba8 ca8 (packL (ps.take i)) D) _ rfl rfl (by kernel_rfl) rfl (by (repeat (first | exact Sp.nil | (apply Sp.cons; focus (repeat (first | exact Rm.here | apply Rm.there)))))) (fun w hC hm hA hL hap => by exact add_y gs8 false ga8 ba8 ca8 h (packL (ps.take i)) 0 gb8 bb8 cb8 hdZ [] 100 ((100 - 2) * 64) gd2 gw2 gm2 D 200 hJ.ok hz8.1 hle8 (by omega) (by omega) ⟨by omega, by omega⟩ (some ⟨m8, 0, none⟩) 1 [p] (fun q hq => by rw [List.mem_singleton] at hq; rw [hq]; omega) hfp8 (by first | omega | simp) h1 pp hpp hs1 (by rw [hh1]) (by rw [hh1]) r hr hrt w (Has.sel (has_app hL hA hap) (by (repeat (first | exact Sel.nil | (refine Sel.cons (by (repeat (first | exact Rm.here | apply Rm.there))) ?_))))) (fun q hq => by rw [List.mem_singleton] at hq; rw [hq]; exact hpk.1.chn hC (fun g o e hl => by simp)) (SlE.blk (enc := CPrt.v) hL (by (repeat (first | exact List.Mem.head _ | apply List.Mem.tail))) 0 1 (by rfl)) (fun q hq g o e hl hg => by rw [List.mem_singleton] at hq; rw [hq] at e hl; have h5 := hpk.1.lt g o e (by omega); have h6 := hXA8 g hg; omega) (fun g o e _ => apart_blk (by (repeat (first | exact List.Mem.head _ | apply List.Mem.tail))) hap g o e) (by simp)) (fun g hg => .inr (hXA8 g hg)) (fun _ => rfl) ?_; intro z6 m6 hz6 hn6 hm6; obtain ⟨b6, cap6⟩ := z6; dsimp only at hz6 ⊢)); (first | refine sk ?_ | refine skv ?_ | (refine st_want rfl rfl ?_; refine sq (by first | exact dneqt | exact dneqf) ?_)); refine sq (by first | exact qpt | exact qpf) ?_; refine l_nil ?_) | refine n_then ?_ | refine c_block ?_ | refine c_skip ?_ | refine n_block ?_ | refine c_exit ?_ | refine n_then_exit ?_ | refine n_block_eq ?_ | refine n_block_ne rfl ?_ | refine c_ret ?_ | refine n_then_ret ?_ | refine n_block_ret ?_ | refine c_cond_t rfl ?_ | refine c_cond_f rfl ?_ | refine r_succ ?_ )
    refine c_round ⟨i + 1, r.2, h1, m6⟩ ⟨by dsimp only; omega, hJ2, hsm2, by dsimp only; omega⟩ (by dsimp only; omega) ⟨rfl, rfl, rfl, rfl, rfl, trivial⟩ (by rfl) (by exact (by (repeat (first | exact List.nil_sublist _ | exact List.Sublist.slnil | apply List.Sublist.cons_cons | exact List.Sublist.refl _ | apply List.Sublist.cons))))
  obtain rfl : i = ps.length := by omega
  rw [List.take_length] at hsm
  have hla := hJ.la
  have hrng := hJ.rng
  rw [List.take_length] at hla hrng hlen
  have hps4 : ∀ p ∈ ps, p.len ≤ 4096 := fun p hp => by have := hsm p hp; omega
  have hrp : recs (packL ps) = ps.map (·.xs) := recs_pack ps (fun p hp => by have h9 := hps4 p hp; rw [← (hps p hp).1.l] at h9; exact h9)
  repeat (first | refine c_seq ?_ | (refine c_region (id := 8) ?_; refine sq qm ?_; refine sq qm ?_; refine sq qls ?_; refine sq (by first | exact dlsst | exact dlssf) ?_; refine l_nil ?_) | (refine c_region (id := 15) ?_; refine sq qm ?_; refine se ?_; refine ecl rfl rfl (fun w hC hm hL => by exact sopen_0 gd2 gw2 gm2 D hJ.fre.go (by rw [hJ.ok.len]; decide) hJ.rg (by rw [hJ.ok.len]; decide) 100 (by rw [hJ.ok.len]) h hdZ (packL ps) [] hla hJ.lb hJ.K hdZ_K (by unfold genH; rw [hJ.nt]; exact Int.lt_irrefl _) w (hL.sub (by (repeat (first | exact List.nil_sublist _ | exact List.Sublist.slnil | apply List.Sublist.cons_cons | exact List.Sublist.refl _ | apply List.Sublist.cons))))) ?_; intro z10 m10 hz10 hn10 hm10; obtain ⟨gs10, ⟨ga10, ba10, ca10⟩, ⟨gb10, bb10, cb10⟩⟩ := z10; have hqs10 : w.heap.size ≤ gs10 := (by have := hn10 gs10 (by simp [feet, Chunk.foot]); omega); have hqa10 : w.heap.size ≤ ga10 := (by have := hn10 ga10 (by simp [feet, Chunk.foot]); omega); have hqb10 : w.heap.size ≤ gb10 := (by have := hn10 gb10 (by simp [feet, Chunk.foot]); omega); have hba10 : ∀ g, ba10 = some ⟨g, 0, none⟩ → w.heap.size ≤ g := (fun g e => by have := hn10 g (by simp [feet, Chunk.foot, e]); omega); have hbb10 : ∀ g, bb10 = some ⟨g, 0, none⟩ → w.heap.size ≤ g := (fun g e => by have := hn10 g (by simp [feet, Chunk.foot, e]); omega); dsimp only at hz10 ⊢; refine sq qm ?_; refine sq qe ?_; refine sq qe ?_; refine sq qa ?_; refine sq qa ?_; refine l_nil ?_) | refine n_then ?_ | refine c_block ?_ | refine c_skip ?_ | refine n_block ?_ | refine c_exit ?_ | refine n_then_exit ?_ | refine n_block_eq ?_ | refine n_block_ne rfl ?_ | refine c_ret ?_ | refine n_then_ret ?_ | refine n_block_ret ?_ | refine c_cond_t rfl ?_ | refine c_cond_f rfl ?_ | refine r_succ ?_ )
  rcases Nat.eq_zero_or_pos ps.length with hpl0 | h0
  · have hpz : packL ps = [] := by rw [List.eq_nil_of_length_eq_zero hpl0]; rfl
    have hrz : recs [] = [] := rfl
    have hpz0 : (packL ps).length = 0 := by rw [hpz]; rfl
    repeat (first | refine c_seq ?_ | (refine c_region (id := 16) ?_; refine sq qm ?_; refine sq (by first | exact deqlt | exact deqlf) ?_; refine sq qm ?_; (first | refine sk ?_ | refine skv ?_ | (refine st_want rfl rfl ?_; refine sq qm ?_)); (first | refine sk ?_ | refine skv ?_ | (refine st_want rfl rfl ?_; refine sq qm ?_)); (first | refine sk ?_ | refine skv ?_ | (refine st_want rfl rfl ?_; refine se ?_; refine ecp rfl rfl (fun w hC hm hL => by have h9 := add_0 gs5 false ga5 ba5 ca5 hdZ [] 0 gb5 bb5 cb5 hdZ [] 100 ((100 - 2) * 64) gd1 gw1 gm1 (Dk.new 200) (by simp) (by omega) ⟨by decide, by decide⟩ ap cp0 w (Has.sel hL (by (repeat (first | exact Sel.nil | (refine Sel.cons (by (repeat (first | exact Rm.here | apply Rm.there))) ?_))))); rw [hpl0]; exact h9) ?_; intro m' hm'; refine fgs (A := [.blk gs5 (.cells (stC false ga5 gb5) 55 (0, 0)), .sl ba5 ca5 5 1 (([]).map (Value.int .u8)), LgB ga5 gd1 0 ((100 - 2) * 64) hdZ (.slice ba5 [].length ca5) false, .sl bb5 cb5 5 1 (([]).map (Value.int .u8)), LgB gb5 gd1 100 ((100 - 2) * 64) hdZ (.slice bb5 [].length cb5) false, .blk gs10 (.cells (stC false ga10 gb10) 55 (0, 0)), .sl ba10 ca10 5 1 (((packL ps)).map (Value.int .u8)), LgB ga10 gd2 0 ((100 - 2) * 64) h (.slice ba10 (packL ps).length ca10) false, .sl bb10 cb10 5 1 (([]).map (Value.int .u8)), LgB gb10 gd2 100 ((100 - 2) * 64) hdZ (.slice bb10 [].length cb10) false]) (by (repeat (first | exact Sp.nil | (apply Sp.cons; focus (repeat (first | exact Rm.here | apply Rm.there)))))) ?_)); (first | refine sk ?_ | refine skv ?_ | (refine st_want rfl rfl ?_; refine sq (by first | exact deqlt | exact deqlf) ?_)); refine sq (by first | exact qpt | exact qpf) ?_; refine sq qm ?_; (first | refine sk ?_ | refine skv ?_ | (refine st_want rfl rfl ?_; refine sq qm ?_)); (first | refine sk ?_ | refine skv ?_ | (refine st_want rfl rfl ?_; refine se ?_; refine ecl rfl rfl (fun w hC hm hL => by exact records_c gs5 false ga5 ba5 ca5 hdZ [] 0 gb5 bb5 cb5 hdZ [] 100 ((100 - 2) * 64) gd1 (by omega) (by simp) (by simp) hz5.1 w (Has.sel hL (by (repeat (first | exact Sel.nil | (refine Sel.cons (by (repeat (first | exact Rm.here | apply Rm.there))) ?_)))))) ?_; intro z11 m11 hz11 hn11 hm11; obtain ⟨b11, cap11, ps11⟩ := z11; dsimp only at hz11; clear hn11; refine prm (L' := .sl b11 cap11 30 1 (ps11.map CPrt.v) :: (.blk gs5 (.cells (stC false ga5 gb5) 55 (0, 0)) :: .sl ba5 ca5 5 1 (([]).map (Value.int .u8)) :: LgB ga5 gd1 0 ((100 - 2) * 64) hdZ (.slice ba5 [].length ca5) false :: .sl bb5 cb5 5 1 (([]).map (Value.int .u8)) :: LgB gb5 gd1 100 ((100 - 2) * 64) hdZ (.slice bb5 [].length cb5) false :: .blk gs10 (.cells (stC false ga10 gb10) 55 (0, 0)) :: .sl ba10 ca10 5 1 (((packL ps)).map (Value.int .u8)) :: LgB ga10 gd2 0 ((100 - 2) * 64) h (.slice ba10 (packL ps).length ca10) false :: .sl bb10 cb10 5 1 (([]).map (Value.int .u8)) :: LgB gb10 gd2 100 ((100 - 2) * 64) hdZ (.slice bb10 [].length cb10) false :: secC ps11)) (List.Perm.append_left [_] (List.perm_append_comm (l₁ := secC ps11) (l₂ := [.blk gs5 (.cells (stC false ga5 gb5) 55 (0, 0)), .sl ba5 ca5 5 1 (([]).map (Value.int .u8)), LgB ga5 gd1 0 ((100 - 2) * 64) hdZ (.slice ba5 [].length ca5) false, .sl bb5 cb5 5 1 (([]).map (Value.int .u8)), LgB gb5 gd1 100 ((100 - 2) * 64) hdZ (.slice bb5 [].length cb5) false, .blk gs10 (.cells (stC false ga10 gb10) 55 (0, 0)), .sl ba10 ca10 5 1 (((packL ps)).map (Value.int .u8)), LgB ga10 gd2 0 ((100 - 2) * 64) h (.slice ba10 (packL ps).length ca10) false, .sl bb10 cb10 5 1 (([]).map (Value.int .u8)), LgB gb10 gd2 100 ((100 - 2) * 64) hdZ (.slice bb10 [].length cb10) false]))) ?_)); (first | refine sk ?_ | refine skv ?_ | (refine st_want rfl rfl ?_; refine sq qm ?_)); (first | refine sk ?_ | refine skv ?_ | (refine st_want rfl rfl ?_; refine se ?_; refine ecl rfl rfl (fun w hC hm hL => by exact records_c gs10 false ga10 ba10 ca10 h (packL ps) 0 gb10 bb10 cb10 hdZ [] 100 ((100 - 2) * 64) gd2 (by omega) (by omega) hrng hz10.1 w (Has.sel hL (by (repeat (first | exact Sel.nil | (refine Sel.cons (by (repeat (first | exact Rm.here | apply Rm.there))) ?_)))))) ?_; intro z12 m12 hz12 hn12 hm12; obtain ⟨b12, cap12, ps12⟩ := z12; dsimp only at hz12; clear hn12; refine prm (L' := .sl b12 cap12 30 1 (ps12.map CPrt.v) :: (.sl b11 cap11 30 1 (ps11.map CPrt.v) :: .blk gs5 (.cells (stC false ga5 gb5) 55 (0, 0)) :: .sl ba5 ca5 5 1 (([]).map (Value.int .u8)) :: LgB ga5 gd1 0 ((100 - 2) * 64) hdZ (.slice ba5 [].length ca5) false :: .sl bb5 cb5 5 1 (([]).map (Value.int .u8)) :: LgB gb5 gd1 100 ((100 - 2) * 64) hdZ (.slice bb5 [].length cb5) false :: .blk gs10 (.cells (stC false ga10 gb10) 55 (0, 0)) :: .sl ba10 ca10 5 1 (((packL ps)).map (Value.int .u8)) :: LgB ga10 gd2 0 ((100 - 2) * 64) h (.slice ba10 (packL ps).length ca10) false :: .sl bb10 cb10 5 1 (([]).map (Value.int .u8)) :: LgB gb10 gd2 100 ((100 - 2) * 64) hdZ (.slice bb10 [].length cb10) false :: (secC ps11 ++ secC ps12))) (List.Perm.append_left [_] (List.perm_append_comm (l₁ := secC ps12) (l₂ := .sl b11 cap11 30 1 (ps11.map CPrt.v) :: .blk gs5 (.cells (stC false ga5 gb5) 55 (0, 0)) :: .sl ba5 ca5 5 1 (([]).map (Value.int .u8)) :: LgB ga5 gd1 0 ((100 - 2) * 64) hdZ (.slice ba5 [].length ca5) false :: .sl bb5 cb5 5 1 (([]).map (Value.int .u8)) :: LgB gb5 gd1 100 ((100 - 2) * 64) hdZ (.slice bb5 [].length cb5) false :: .blk gs10 (.cells (stC false ga10 gb10) 55 (0, 0)) :: .sl ba10 ca10 5 1 (((packL ps)).map (Value.int .u8)) :: LgB ga10 gd2 0 ((100 - 2) * 64) h (.slice ba10 (packL ps).length ca10) false :: .sl bb10 cb10 5 1 (([]).map (Value.int .u8)) :: LgB gb10 gd2 100 ((100 - 2) * 64) hdZ (.slice bb10 [].length cb10) false :: secC ps11))) ?_)); (first | refine sk ?_ | refine skv ?_ | (refine st_want rfl rfl ?_; refine se ?_; refine ecp rfl rfl (fun w hC hm hL => by exact rsame_eq ps11 ps12 b11 b12 cap11 cap12 (by rw [hz11.2.1, hz12.2.1, hpz]) (by have h7 := congrArg List.length hz11.2.1; rw [hrz, List.length_map, List.length_nil] at h7; omega) w (fun p hp => pw_ok hL ((show ∀ c ∈ (secC ps11 ++ secC ps12), c ∈ _ from (fun c hc => by (repeat (first | exact hc | apply List.mem_cons_of_mem)))) _ (List.mem_append_left _ (List.mem_map_of_mem (f := (fun p : CPrt => Chunk.sl p.a p.cap 5 1 (p.xs.map (Value.int .u8)))) hp))) (hz11.2.2 p hp)) (fun p hp => pw_ok hL ((show ∀ c ∈ (secC ps11 ++ secC ps12), c ∈ _ from (fun c hc => by (repeat (first | exact hc | apply List.mem_cons_of_mem)))) _ (List.mem_append_right _ (List.mem_map_of_mem (f := (fun p : CPrt => Chunk.sl p.a p.cap 5 1 (p.xs.map (Value.int .u8)))) hp))) (hz12.2.2 p hp)) (SlE.own (enc := CPrt.v) hL (by (repeat (first | exact List.Mem.head _ | apply List.Mem.tail))) (os_bk hz11.1)) (SlE.own (enc := CPrt.v) hL (by (repeat (first | exact List.Mem.head _ | apply List.Mem.tail))) (os_bk hz12.1))) ?_; intro m' hm')); refine sq (by first | exact qpt | exact qpf) ?_; refine sq qm ?_; (first | refine sk ?_ | refine skv ?_ | (refine st_want rfl rfl ?_; refine sq qm ?_)); (first | refine sk ?_ | refine skv ?_ | (refine st_want rfl rfl ?_; refine se ?_; refine ecl rfl rfl (fun w hC hm hL => by exact records_c gs5 false ga5 ba5 ca5 hdZ [] 0 gb5 bb5 cb5 hdZ [] 100 ((100 - 2) * 64) gd1 (by omega) (by simp) (by simp) hz5.1 w (Has.sel hL (by (repeat (first | exact Sel.nil | (refine Sel.cons (by (repeat (first | exact Rm.here | apply Rm.there))) ?_)))))) ?_; intro z13 m13 hz13 hn13 hm13; obtain ⟨b13, cap13, ps13⟩ := z13; dsimp only at hz13; clear hn13; refine prm (L' := .sl b13 cap13 30 1 (ps13.map CPrt.v) :: (.sl b12 cap12 30 1 (ps12.map CPrt.v) :: .sl b11 cap11 30 1 (ps11.map CPrt.v) :: .blk gs5 (.cells (stC false ga5 gb5) 55 (0, 0)) :: .sl ba5 ca5 5 1 (([]).map (Value.int .u8)) :: LgB ga5 gd1 0 ((100 - 2) * 64) hdZ (.slice ba5 [].length ca5) false :: .sl bb5 cb5 5 1 (([]).map (Value.int .u8)) :: LgB gb5 gd1 100 ((100 - 2) * 64) hdZ (.slice bb5 [].length cb5) false :: .blk gs10 (.cells (stC false ga10 gb10) 55 (0, 0)) :: .sl ba10 ca10 5 1 (((packL ps)).map (Value.int .u8)) :: LgB ga10 gd2 0 ((100 - 2) * 64) h (.slice ba10 (packL ps).length ca10) false :: .sl bb10 cb10 5 1 (([]).map (Value.int .u8)) :: LgB gb10 gd2 100 ((100 - 2) * 64) hdZ (.slice bb10 [].length cb10) false :: ((secC ps11 ++ secC ps12) ++ secC ps13))) (List.Perm.append_left [_] (List.perm_append_comm (l₁ := secC ps13) (l₂ := .sl b12 cap12 30 1 (ps12.map CPrt.v) :: .sl b11 cap11 30 1 (ps11.map CPrt.v) :: .blk gs5 (.cells (stC false ga5 gb5) 55 (0, 0)) :: .sl ba5 ca5 5 1 (([]).map (Value.int .u8)) :: LgB ga5 gd1 0 ((100 - 2) * 64) hdZ (.slice ba5 [].length ca5) false :: .sl bb5 cb5 5 1 (([]).map (Value.int .u8)) :: LgB gb5 gd1 100 ((100 - 2) * 64) hdZ (.slice bb5 [].length cb5) false :: .blk gs10 (.cells (stC false ga10 gb10) 55 (0, 0)) :: .sl ba10 ca10 5 1 (((packL ps)).map (Value.int .u8)) :: LgB ga10 gd2 0 ((100 - 2) * 64) h (.slice ba10 (packL ps).length ca10) false :: .sl bb10 cb10 5 1 (([]).map (Value.int .u8)) :: LgB gb10 gd2 100 ((100 - 2) * 64) hdZ (.slice bb10 [].length cb10) false :: (secC ps11 ++ secC ps12)))) ?_)); (first | refine sk ?_ | refine skv ?_ | (refine st_want rfl rfl ?_; refine sq qm ?_)); (first | refine sk ?_ | refine skv ?_ | (refine st_want rfl rfl ?_; refine se ?_; refine ecp rfl rfl (fun w hC hm hL => by exact rsame_eq ps13 ps b13 ap cap13 cp0 (by rw [hz13.2.1, hrz, List.eq_nil_of_length_eq_zero hpl0]; rfl) (by have h7 := congrArg List.length hz13.2.1; rw [hrz, List.length_map, List.length_nil] at h7; omega) w (fun p hp => pw_ok hL ((show ∀ c ∈ ((secC ps11 ++ secC ps12) ++ secC ps13), c ∈ _ from (fun c hc => by (repeat (first | exact hc | apply List.mem_cons_of_mem)))) _ (List.mem_append_right _ (List.mem_map_of_mem (f := (fun p : CPrt => Chunk.sl p.a p.cap 5 1 (p.xs.map (Value.int .u8)))) hp))) (hz13.2.2 p hp)) (fun p hp => (hps p hp).1.chn hC (fun g o e hl => by simp)) (SlE.own (enc := CPrt.v) hL (by (repeat (first | exact List.Mem.head _ | apply List.Mem.tail))) (os_bk hz13.1)) (hO.ch0 hC)) ?_; intro m' hm')); refine sq (by first | exact qpt | exact qpf) ?_; refine sq qm ?_; (first | refine sk ?_ | refine skv ?_ | (refine st_want rfl rfl ?_; refine sq qm ?_)); (first | refine sk ?_ | refine skv ?_ | (refine st_want rfl rfl ?_; refine se ?_; refine ecp rfl rfl (fun w hC hm hL => by have h9 := sroom_c gs5 false ga5 ba5 ca5 hdZ [] 0 gb5 bb5 cb5 hdZ [] 100 ((100 - 2) * 64) gd1 ⟨(by simp), by omega⟩ w (Has.sel hL (by (repeat (first | exact Sel.nil | (refine Sel.cons (by (repeat (first | exact Rm.here | apply Rm.there))) ?_))))); rw [List.length_nil] at h9; exact h9) ?_; intro m' hm')); (first | refine sk ?_ | refine skv ?_ | (refine st_want rfl rfl ?_; refine sq qm ?_)); (first | refine sk ?_ | refine skv ?_ | (refine st_want rfl rfl ?_; refine se ?_; refine ecp rfl rfl (fun w hC hm hL => by exact sroom_c gs10 false ga10 ba10 ca10 h (packL ps) 0 gb10 bb10 cb10 hdZ [] 100 ((100 - 2) * 64) gd2 ⟨by omega, by omega⟩ w (Has.sel hL (by (repeat (first | exact Sel.nil | (refine Sel.cons (by (repeat (first | exact Rm.here | apply Rm.there))) ?_)))))) ?_; intro m' hm')); (first | refine sk ?_ | refine skv ?_ | (refine st_want rfl rfl ?_; refine sq (by first | exact deqlt | exact deqlf) ?_)); refine sq (by first | exact qpt | exact qpf) ?_; refine sq qa ?_; refine l_nil ?_) | refine n_then ?_ | refine c_block ?_ | refine c_skip ?_ | refine n_block ?_ | refine c_exit ?_ | refine n_then_exit ?_ | refine n_block_eq ?_ | refine n_block_ne rfl ?_ | refine c_ret ?_ | refine n_then_ret ?_ | refine n_block_ret ?_ | refine c_cond_t rfl ?_ | refine c_cond_f rfl ?_ | refine r_succ ?_ )
    (first | apply r_ret () | apply r_end ()); exact rfl; exact rfl; exact (.tmp rfl .nil); exact rfl; exact (List.nil_sublist _); exact new_nil; exact trivial
  · obtain ⟨h5, hh5⟩ : ∃ h5 : Hd, h5 = ⟨1, (([] : List Int) ++ packL ps).length, hdZ.nt⟩ := ⟨_, rfl⟩
    obtain ⟨r, hr⟩ : ∃ r, r = appR 0 1 h5 [] (packL ps) (Dk.new 200) := ⟨_, rfl⟩
    have hfp5 : ([] : List Int).length + (packL ps).length ≤ ((100 - 2) * 64) := by simp; omega
    have hK5 : HdK h5 := by
      rw [hh5]
      exact ⟨⟨by dsimp only; omega, by dsimp only; omega⟩, ⟨by dsimp only; omega, by dsimp only; rw [List.nil_append]; omega⟩, hdZ_K.nt, hdZ_K.hi⟩
    have hrt : r.1 = true := by
      rw [hr]
      exact ((LogAt.new 200 0 100).append (h' := h5) (ys := packL ps) (by rw [hD0]; decide) (by omega) ⟨rfl, rfl⟩ (RG.new 200) hK5 (by rw [hh5]; rfl) (by decide) (by rw [hh5]) (by rw [List.nil_append]; omega) (by rw [List.nil_append]; exact hrng) 1 (by rw [hh5]; rfl)).1
    repeat (first | refine c_seq ?_ | (refine c_region (id := 16) ?_; refine sq qm ?_; refine sq (by first | exact deqlt | exact deqlf) ?_; refine sq qm ?_; (first | refine sk ?_ | refine skv ?_ | (refine st_want rfl rfl ?_; refine sq qm ?_)); (first | refine sk ?_ | refine skv ?_ | (refine st_want rfl rfl ?_; refine sq qm ?_)); (first | refine sk ?_ | refine skv ?_ | (refine st_want rfl rfl ?_; refine se ?_; refine e_callX (LogL ga5 gd1 gw1 gm1 0 ((100 - 2) * 64) hdZ ba5 ca5 [] (Dk.new 200)) _ rfl rfl (by kernel_rfl) rfl (by (repeat (first | exact Sp.nil | (apply Sp.cons; focus (repeat (first | exact Rm.here | apply Rm.there)))))) (fun w hC hm hA hL hap => by exact add_y gs5 false ga5 ba5 ca5 hdZ [] 0 gb5 bb5 cb5 hdZ [] 100 ((100 - 2) * 64) gd1 gw1 gm1 (Dk.new 200) 200 (Dk.OK.new 200 (by decide)) hz5.1 (by simp) (by omega) (by omega) ⟨by decide, by decide⟩ ap cp0 ps hps4 hfp5 (by first | omega | simp) h5 1 (by rw [hh5]; rfl) (by rw [hh5]; rfl) (by rw [hh5]) (by rw [hh5]) r hr hrt w (Has.sel (has_app hL hA hap) (by (repeat (first | exact Sel.nil | (refine Sel.cons (by (repeat (first | exact Rm.here | apply Rm.there))) ?_))))) (fun q hq => (hps q hq).1.chn hC (fun g o e hl => by simp)) (hO.ch0 hC) (fun q hq g o e hl hg => by have hq2 := (hps q hq).1; have h5 := hq2.lt g o e (by have := hq2.l; omega); have h6 := hXA5 g hg; omega) (fun g o e hl hg => by have h5 := hO.lt g o e (by simpa using hl); have h6 := hXA5 g hg; omega) h0) (fun g hg => .inr (hXA5 g hg)) (fun _ => rfl) ?_; intro z7 m7 hz7 hn7 hm7; obtain ⟨b7, cap7⟩ := z7; dsimp only at hz7 ⊢; refine fgs (A := [.blk gs5 (.cells (stC false ga5 gb5) 55 (0, 0)), .sl b7 cap7 5 1 ((([] ++ packL ps)).map (Value.int .u8)), LgB ga5 gd1 0 ((100 - 2) * 64) h5 (.slice b7 ([] ++ packL ps).length cap7) false, .sl bb5 cb5 5 1 (([]).map (Value.int .u8)), LgB gb5 gd1 100 ((100 - 2) * 64) hdZ (.slice bb5 [].length cb5) false, .blk gs10 (.cells (stC false ga10 gb10) 55 (0, 0)), .sl ba10 ca10 5 1 (((packL ps)).map (Value.int .u8)), LgB ga10 gd2 0 ((100 - 2) * 64) h (.slice ba10 (packL ps).length ca10) false, .sl bb10 cb10 5 1 (([]).map (Value.int .u8)), LgB gb10 gd2 100 ((100 - 2) * 64) hdZ (.slice bb10 [].length cb10) false]) (by (repeat (first | exact Sp.nil | (apply Sp.cons; focus (repeat (first | exact Rm.here | apply Rm.there)))))) ?_)); (first | refine sk ?_ | refine skv ?_ | (refine st_want rfl rfl ?_; refine sq (by first | exact deqlt | exact deqlf) ?_)); refine sq (by first | exact qpt | exact qpf) ?_; refine sq qm ?_; (first | refine sk ?_ | refine skv ?_ | (refine st_want rfl rfl ?_; refine sq qm ?_)); (first | refine sk ?_ | refine skv ?_ | (refine st_want rfl rfl ?_; refine se ?_; refine ecl rfl rfl (fun w hC hm hL => by exact records_c gs5 false ga5 b7 cap7 h5 ([] ++ packL ps) 0 gb5 bb5 cb5 hdZ [] 100 ((100 - 2) * 64) gd1 (by omega) (by rw [List.nil_append]; omega) (by rw [List.nil_append]; exact hrng) hz7 w (Has.sel hL (by (repeat (first | exact Sel.nil | (refine Sel.cons (by (repeat (first | exact Rm.here | apply Rm.there))) ?_)))))) ?_; intro z11 m11 hz11 hn11 hm11; obtain ⟨b11, cap11, ps11⟩ := z11; dsimp only at hz11; clear hn11; refine prm (L' := .sl b11 cap11 30 1 (ps11.map CPrt.v) :: (.blk gs5 (.cells (stC false ga5 gb5) 55 (0, 0)) :: .sl b7 cap7 5 1 ((([] ++ packL ps)).map (Value.int .u8)) :: LgB ga5 gd1 0 ((100 - 2) * 64) h5 (.slice b7 ([] ++ packL ps).length cap7) false :: .sl bb5 cb5 5 1 (([]).map (Value.int .u8)) :: LgB gb5 gd1 100 ((100 - 2) * 64) hdZ (.slice bb5 [].length cb5) false :: .blk gs10 (.cells (stC false ga10 gb10) 55 (0, 0)) :: .sl ba10 ca10 5 1 (((packL ps)).map (Value.int .u8)) :: LgB ga10 gd2 0 ((100 - 2) * 64) h (.slice ba10 (packL ps).length ca10) false :: .sl bb10 cb10 5 1 (([]).map (Value.int .u8)) :: LgB gb10 gd2 100 ((100 - 2) * 64) hdZ (.slice bb10 [].length cb10) false :: secC ps11)) (List.Perm.append_left [_] (List.perm_append_comm (l₁ := secC ps11) (l₂ := [.blk gs5 (.cells (stC false ga5 gb5) 55 (0, 0)), .sl b7 cap7 5 1 ((([] ++ packL ps)).map (Value.int .u8)), LgB ga5 gd1 0 ((100 - 2) * 64) h5 (.slice b7 ([] ++ packL ps).length cap7) false, .sl bb5 cb5 5 1 (([]).map (Value.int .u8)), LgB gb5 gd1 100 ((100 - 2) * 64) hdZ (.slice bb5 [].length cb5) false, .blk gs10 (.cells (stC false ga10 gb10) 55 (0, 0)), .sl ba10 ca10 5 1 (((packL ps)).map (Value.int .u8)), LgB ga10 gd2 0 ((100 - 2) * 64) h (.slice ba10 (packL ps).length ca10) false, .sl bb10 cb10 5 1 (([]).map (Value.int .u8)), LgB gb10 gd2 100 ((100 - 2) * 64) hdZ (.slice bb10 [].length cb10) false]))) ?_)); (first | refine sk ?_ | refine skv ?_ | (refine st_want rfl rfl ?_; refine sq qm ?_)); (first | refine sk ?_ | refine skv ?_ | (refine st_want rfl rfl ?_; refine se ?_; refine ecl rfl rfl (fun w hC hm hL => by exact records_c gs10 false ga10 ba10 ca10 h (packL ps) 0 gb10 bb10 cb10 hdZ [] 100 ((100 - 2) * 64) gd2 (by omega) (by omega) hrng hz10.1 w (Has.sel hL (by (repeat (first | exact Sel.nil | (refine Sel.cons (by (repeat (first | exact Rm.here | apply Rm.there))) ?_)))))) ?_; intro z12 m12 hz12 hn12 hm12; obtain ⟨b12, cap12, ps12⟩ := z12; dsimp only at hz12; clear hn12; refine prm (L' := .sl b12 cap12 30 1 (ps12.map CPrt.v) :: (.sl b11 cap11 30 1 (ps11.map CPrt.v) :: .blk gs5 (.cells (stC false ga5 gb5) 55 (0, 0)) :: .sl b7 cap7 5 1 ((([] ++ packL ps)).map (Value.int .u8)) :: LgB ga5 gd1 0 ((100 - 2) * 64) h5 (.slice b7 ([] ++ packL ps).length cap7) false :: .sl bb5 cb5 5 1 (([]).map (Value.int .u8)) :: LgB gb5 gd1 100 ((100 - 2) * 64) hdZ (.slice bb5 [].length cb5) false :: .blk gs10 (.cells (stC false ga10 gb10) 55 (0, 0)) :: .sl ba10 ca10 5 1 (((packL ps)).map (Value.int .u8)) :: LgB ga10 gd2 0 ((100 - 2) * 64) h (.slice ba10 (packL ps).length ca10) false :: .sl bb10 cb10 5 1 (([]).map (Value.int .u8)) :: LgB gb10 gd2 100 ((100 - 2) * 64) hdZ (.slice bb10 [].length cb10) false :: (secC ps11 ++ secC ps12))) (List.Perm.append_left [_] (List.perm_append_comm (l₁ := secC ps12) (l₂ := .sl b11 cap11 30 1 (ps11.map CPrt.v) :: .blk gs5 (.cells (stC false ga5 gb5) 55 (0, 0)) :: .sl b7 cap7 5 1 ((([] ++ packL ps)).map (Value.int .u8)) :: LgB ga5 gd1 0 ((100 - 2) * 64) h5 (.slice b7 ([] ++ packL ps).length cap7) false :: .sl bb5 cb5 5 1 (([]).map (Value.int .u8)) :: LgB gb5 gd1 100 ((100 - 2) * 64) hdZ (.slice bb5 [].length cb5) false :: .blk gs10 (.cells (stC false ga10 gb10) 55 (0, 0)) :: .sl ba10 ca10 5 1 (((packL ps)).map (Value.int .u8)) :: LgB ga10 gd2 0 ((100 - 2) * 64) h (.slice ba10 (packL ps).length ca10) false :: .sl bb10 cb10 5 1 (([]).map (Value.int .u8)) :: LgB gb10 gd2 100 ((100 - 2) * 64) hdZ (.slice bb10 [].length cb10) false :: secC ps11))) ?_)); (first | refine sk ?_ | refine skv ?_ | (refine st_want rfl rfl ?_; refine se ?_; refine ecp rfl rfl (fun w hC hm hL => by exact rsame_eq ps11 ps12 b11 b12 cap11 cap12 (by rw [hz11.2.1, hz12.2.1, List.nil_append]) (by have h7 := congrArg List.length hz11.2.1; rw [List.nil_append, hrp, List.length_map, List.length_map] at h7; omega) w (fun p hp => pw_ok hL ((show ∀ c ∈ (secC ps11 ++ secC ps12), c ∈ _ from (fun c hc => by (repeat (first | exact hc | apply List.mem_cons_of_mem)))) _ (List.mem_append_left _ (List.mem_map_of_mem (f := (fun p : CPrt => Chunk.sl p.a p.cap 5 1 (p.xs.map (Value.int .u8)))) hp))) (hz11.2.2 p hp)) (fun p hp => pw_ok hL ((show ∀ c ∈ (secC ps11 ++ secC ps12), c ∈ _ from (fun c hc => by (repeat (first | exact hc | apply List.mem_cons_of_mem)))) _ (List.mem_append_right _ (List.mem_map_of_mem (f := (fun p : CPrt => Chunk.sl p.a p.cap 5 1 (p.xs.map (Value.int .u8)))) hp))) (hz12.2.2 p hp)) (SlE.own (enc := CPrt.v) hL (by (repeat (first | exact List.Mem.head _ | apply List.Mem.tail))) (os_bk hz11.1)) (SlE.own (enc := CPrt.v) hL (by (repeat (first | exact List.Mem.head _ | apply List.Mem.tail))) (os_bk hz12.1))) ?_; intro m' hm')); refine sq (by first | exact qpt | exact qpf) ?_; refine sq qm ?_; (first | refine sk ?_ | refine skv ?_ | (refine st_want rfl rfl ?_; refine sq qm ?_)); (first | refine sk ?_ | refine skv ?_ | (refine st_want rfl rfl ?_; refine se ?_; refine ecl rfl rfl (fun w hC hm hL => by exact records_c gs5 false ga5 b7 cap7 h5 ([] ++ packL ps) 0 gb5 bb5 cb5 hdZ [] 100 ((100 - 2) * 64) gd1 (by omega) (by rw [List.nil_append]; omega) (by rw [List.nil_append]; exact hrng) hz7 w (Has.sel hL (by (repeat (first | exact Sel.nil | (refine Sel.cons (by (repeat (first | exact Rm.here | apply Rm.there))) ?_)))))) ?_; intro z13 m13 hz13 hn13 hm13; obtain ⟨b13, cap13, ps13⟩ := z13; dsimp only at hz13; clear hn13; refine prm (L' := .sl b13 cap13 30 1 (ps13.map CPrt.v) :: (.sl b12 cap12 30 1 (ps12.map CPrt.v) :: .sl b11 cap11 30 1 (ps11.map CPrt.v) :: .blk gs5 (.cells (stC false ga5 gb5) 55 (0, 0)) :: .sl b7 cap7 5 1 ((([] ++ packL ps)).map (Value.int .u8)) :: LgB ga5 gd1 0 ((100 - 2) * 64) h5 (.slice b7 ([] ++ packL ps).length cap7) false :: .sl bb5 cb5 5 1 (([]).map (Value.int .u8)) :: LgB gb5 gd1 100 ((100 - 2) * 64) hdZ (.slice bb5 [].length cb5) false :: .blk gs10 (.cells (stC false ga10 gb10) 55 (0, 0)) :: .sl ba10 ca10 5 1 (((packL ps)).map (Value.int .u8)) :: LgB ga10 gd2 0 ((100 - 2) * 64) h (.slice ba10 (packL ps).length ca10) false :: .sl bb10 cb10 5 1 (([]).map (Value.int .u8)) :: LgB gb10 gd2 100 ((100 - 2) * 64) hdZ (.slice bb10 [].length cb10) false :: ((secC ps11 ++ secC ps12) ++ secC ps13))) (List.Perm.append_left [_] (List.perm_append_comm (l₁ := secC ps13) (l₂ := .sl b12 cap12 30 1 (ps12.map CPrt.v) :: .sl b11 cap11 30 1 (ps11.map CPrt.v) :: .blk gs5 (.cells (stC false ga5 gb5) 55 (0, 0)) :: .sl b7 cap7 5 1 ((([] ++ packL ps)).map (Value.int .u8)) :: LgB ga5 gd1 0 ((100 - 2) * 64) h5 (.slice b7 ([] ++ packL ps).length cap7) false :: .sl bb5 cb5 5 1 (([]).map (Value.int .u8)) :: LgB gb5 gd1 100 ((100 - 2) * 64) hdZ (.slice bb5 [].length cb5) false :: .blk gs10 (.cells (stC false ga10 gb10) 55 (0, 0)) :: .sl ba10 ca10 5 1 (((packL ps)).map (Value.int .u8)) :: LgB ga10 gd2 0 ((100 - 2) * 64) h (.slice ba10 (packL ps).length ca10) false :: .sl bb10 cb10 5 1 (([]).map (Value.int .u8)) :: LgB gb10 gd2 100 ((100 - 2) * 64) hdZ (.slice bb10 [].length cb10) false :: (secC ps11 ++ secC ps12)))) ?_)); (first | refine sk ?_ | refine skv ?_ | (refine st_want rfl rfl ?_; refine sq qm ?_)); (first | refine sk ?_ | refine skv ?_ | (refine st_want rfl rfl ?_; refine se ?_; refine ecp rfl rfl (fun w hC hm hL => by exact rsame_eq ps13 ps b13 ap cap13 cp0 (by rw [hz13.2.1, List.nil_append, hrp]) (by have h7 := congrArg List.length hz13.2.1; rw [List.nil_append, hrp, List.length_map, List.length_map] at h7; omega) w (fun p hp => pw_ok hL ((show ∀ c ∈ ((secC ps11 ++ secC ps12) ++ secC ps13), c ∈ _ from (fun c hc => by (repeat (first | exact hc | apply List.mem_cons_of_mem)))) _ (List.mem_append_right _ (List.mem_map_of_mem (f := (fun p : CPrt => Chunk.sl p.a p.cap 5 1 (p.xs.map (Value.int .u8)))) hp))) (hz13.2.2 p hp)) (fun p hp => (hps p hp).1.chn hC (fun g o e hl => by simp)) (SlE.own (enc := CPrt.v) hL (by (repeat (first | exact List.Mem.head _ | apply List.Mem.tail))) (os_bk hz13.1)) (hO.ch0 hC)) ?_; intro m' hm')); refine sq (by first | exact qpt | exact qpf) ?_; refine sq qm ?_; (first | refine sk ?_ | refine skv ?_ | (refine st_want rfl rfl ?_; refine sq qm ?_)); (first | refine sk ?_ | refine skv ?_ | (refine st_want rfl rfl ?_; refine se ?_; refine ecp rfl rfl (fun w hC hm hL => by have h9 := sroom_c gs5 false ga5 b7 cap7 h5 ([] ++ packL ps) 0 gb5 bb5 cb5 hdZ [] 100 ((100 - 2) * 64) gd1 ⟨(by rw [List.nil_append]; omega), by omega⟩ w (Has.sel hL (by (repeat (first | exact Sel.nil | (refine Sel.cons (by (repeat (first | exact Rm.here | apply Rm.there))) ?_))))); rw [List.nil_append] at h9; exact h9) ?_; intro m' hm')); (first | refine sk ?_ | refine skv ?_ | (refine st_want rfl rfl ?_; refine sq qm ?_)); (first | refine sk ?_ | refine skv ?_ | (refine st_want rfl rfl ?_; refine se ?_; refine ecp rfl rfl (fun w hC hm hL => by exact sroom_c gs10 false ga10 ba10 ca10 h (packL ps) 0 gb10 bb10 cb10 hdZ [] 100 ((100 - 2) * 64) gd2 ⟨by omega, by omega⟩ w (Has.sel hL (by (repeat (first | exact Sel.nil | (refine Sel.cons (by (repeat (first | exact Rm.here | apply Rm.there))) ?_)))))) ?_; intro m' hm')); (first | refine sk ?_ | refine skv ?_ | (refine st_want rfl rfl ?_; refine sq (by first | exact deqlt | exact deqlf) ?_)); refine sq (by first | exact qpt | exact qpf) ?_; refine sq qa ?_; refine l_nil ?_) | refine n_then ?_ | refine c_block ?_ | refine c_skip ?_ | refine n_block ?_ | refine c_exit ?_ | refine n_then_exit ?_ | refine n_block_eq ?_ | refine n_block_ne rfl ?_ | refine c_ret ?_ | refine n_then_ret ?_ | refine n_block_ret ?_ | refine c_cond_t rfl ?_ | refine c_cond_f rfl ?_ | refine r_succ ?_ )
    (first | apply r_ret () | apply r_end ()); exact rfl; exact rfl; exact (.tmp rfl .nil); exact rfl; exact (List.nil_sublist _); exact new_nil; exact trivial
theorem growsTied_ {P : Prop} {w : World} (_ : P) (ap : Option Addr) (cp0 : Nat) (ps : List CPrt) (hpc : ps.length ≤ 9223372036854775807) (hps : ∀ p ∈ ps, p.Ok w ∧ p.len ≤ 9223372036854775807) (hO : SlE CPrt.v w ap ps) :
    Calls Tryd.prog 3 #[.slice ap ps.length cp0] w fun e w' => e = .returned (.bool true) ∧ Below w.heap.size w w' :=
  below_ret (sgrows_law ps ap cp0 hpc w hps hO)
end Go.Proofs.YtgmghkakiocmjaaDoor
namespace Go.Proofs.YtgmghkakiocmjaaDoor.lawStoreGrows
open Go.ChangeShapes Go.WideShapes Go.ChangeAt Go.RowKit
open Go.ChangeMaps (open_string shut_string)
set_option linter.unusedVariables false
theorem own : ownKnob Tryd.prog.godebug = none := by kernel_rfl
theorem laidOut : laidOutB Tryd.prog = true := by kernel_rfl
/-- What the row lists. -/
def theLaid : List (String × DataW Unit) := [("jalousie/store.errArg", Rows.laid_jalousie_store_errArg), ("jalousie/store.errLong", Rows.laid_jalousie_store_errLong), ("jalousie/store.errFull", Rows.laid_jalousie_store_errFull), ("jalousie/store.errLost", Rows.laid_jalousie_store_errLost), ("jalousie/store.errSpent", Rows.laid_jalousie_store_errSpent)]
set_option maxRecDepth 100000 in
theorem door_met (os : Os) (args : Array Value) : laidMetH Tryd.prog theLaid ((World.doorLaid Tryd.prog 104 os).forCall (fun _ _ => 0) ⟨#[], args, []⟩).memory :=
  laidMetH_of_parts3 (fuel := 65) (laidMet_of_run' 65 (by kernel_rfl) (by kernel_rfl)) (by kernel_rfl) (by kernel_rfl)
set_option maxRecDepth 100000 in
theorem lifted (os : Os) (started : os.Started) (H : Type) (enc : TypeId × Value → H) :
    ReturnsInHanded {} Tryd.checked os 3 .any (fun w args => (Rows.storeGrowsSpec.pre enc Tryd.prog Tryd.f3 [] false w args ∧ laidMetH Tryd.prog theLaid w) ∧ sizedMet enc Tryd.prog Tryd.f3 (OpenSpec.ofChange Rows.storeGrowsSpec) false w args)
      (Rows.storeGrowsSpec.post enc Tryd.prog Tryd.f3 false true false false) := by
  refine returnsInHanded_of_change_and (C := Tryd.checked) (X := fun w _ => laidMetH Tryd.prog theLaid w) (fun _ _ _ hh h => h.of_heap hh) own started (by kernel_rfl) Tryd.func3
    (ChangeSpec.witness_shaped (enc := enc) (C := Tryd.checked) (os := os) (X := fun w _ => laidMetH Tryd.prog theLaid w) false (World.doorLaid Tryd.prog 104 os) #[.slice none 0 0] 8 rfl (World.shaped_of_RefB (by kernel_rfl) (by kernel_rfl)) (by kernel_rfl) (by kernel_rfl) (by kernel_rfl) (door_met os _)) ?_
  intro W base args ds gs before hval0 hW hcnd _ hL _
  have hval : ∀ (j : Nat) t v, Tryd.f3.params[j]? = some t → args[j]? = some v → Value.okWide Tryd.prog W .any base t v := hval0
  have hW' := hW
  obtain ⟨p, q, hA0, hV, rfl, hfz, hnd⟩ := hW
  have hA : DataW.TrodAll enc Tryd.prog W 0 (fun _ => true) true Tryd.f3.params.toList args.toList ds p := hA0
  rw [Tryd.params3] at hA hval
  obtain ⟨v0, vs0, d0, ds0, p0, q0, hargs, rfl, rfl, h0, r0⟩ := trodAll_cons hA
  obtain ⟨rfl, rfl, rfl⟩ := trodAll_nil r0
  obtain rfl : args = #[v0] := by cases args; simp_all
  obtain ⟨rfl, rfl⟩ := trodVars_none hV
  have k0 := h0
  have lt0 : ∀ x ∈ p0, x.block < W.heap.size := by obtain ⟨m, hm⟩ := k0; exact DataW.trod_lt m _ _ _ hm
  obtain ⟨a0, c0, ps0, rfl, n0, o0, s0⟩ := lists_of (hval 0 22 v0 rfl rfl) (reads_of_trod k0)
  clear hA0 hval0
  refine (growsTied_ hL a0 c0 ps0 n0 o0 s0).mono fun e W' ⟨he, bel⟩ => ?_
  subst he
  exact ⟨_, rfl, _, _, _, [], _, [], hW', trodAll_mk1 (shut_bool Tryd.underlying4 _), (trodAll_cons_mk (Below.trod laidOut (by kernel_rfl) (of_decide_eq_true (by kernel_rfl)) k0 bel lt0) trodAll_mk0), rfl, bel.frame _, fun h => by cases h⟩
theorem over : Rows.storeGrowsRow.holds Tryd.pinned (OpenSpec.ofChange Rows.storeGrowsSpec) :=
  OpenClaim.holds_of_wide 3 Tryd.f3 rfl rfl rfl rfl rfl rfl rfl ⟨rfl, rfl, rfl, rfl, rfl⟩ rfl rfl rfl rfl rfl (by kernel_rfl) Tryd.func3 (by kernel_rfl)
    (of_decide_eq_true (by kernel_rfl)) (by unfold Func.isWrapper; first | (rw [if_pos (by decide +kernel)]; kernel_rfl) | (rw [if_neg (by decide +kernel)]; exact ⟨rfl, rfl⟩))
    (fun os started H enc _ => lifted os started H enc)
set_option maxRecDepth 100000 in
/-- StoreGrows: whatever the input, the law answers true, and its arguments read afterwards as before. No condition. -/
theorem proved : Rows.StoreGrowsCardSaid :=
  Claim7.holds_tied_plain_at .later [] [.sentinel, .sentinel, .sentinel, .sentinel, .sentinel] true (true, "b3665a0690ea6340cee859139c688ad8163b7dc907f46d0c16dcd666bd13eaf4") true
    over (fun _ h => by cases h) (by kernel_rfl) (fun _ h => by cases h) storeGrows_row_tie rfl ⟨rfl, rfl⟩ (by kernel_rfl) rfl
    (fun f fn hf hfn => by
      obtain rfl : f = 3 := Option.some.inj ((show Tryd.prog.funcNamed "jalousie/jalousielaw09.StoreGrows" = some 3 by kernel_rfl).symm.trans hf) |>.symm
      obtain rfl : fn = Tryd.f3 := (Option.some.inj (Tryd.func3.symm.trans hfn)).symm
      exact ⟨by kernel_rfl, fun j t ht => by
        rw [Tryd.params3] at ht
        have hm : t ∈ [22] := by simpa using Array.mem_of_getElem? ht
        have hall : ([22].all fun u => !Tryd.prog.wantsStandIn u) = true := by kernel_rfl
        exact (show Tryd.prog.wantsStandIn t = false by simpa using List.all_eq_true.1 hall t hm)⟩)
    (by kernel_rfl)
#print axioms proved
end Go.Proofs.YtgmghkakiocmjaaDoor.lawStoreGrows
