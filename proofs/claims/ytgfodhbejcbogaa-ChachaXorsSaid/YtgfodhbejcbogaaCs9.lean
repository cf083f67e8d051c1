/- ChaCha20: the reference's Xor; the laws of texts. -/
import Derived.Test.YtgfodhbejcbogaaCs8
import Derived.Test.YtgfodhbejcbogaaMem
namespace Go.Proofs.Ytgfodhbejcbogaa
open Go Go.RowKit
set_option linter.unusedVariables false
set_option linter.unusedSimpArgs false
set_option linter.unnecessarySimpa false
theorem Old.rdN {X : List Nat} {w0 : World} {L : List Chunk} {g : Nat} (hx : g ∉ X) : ∀ {vs : List Value} {o : Nat}, Old w0 g o vs → RdN X w0 L ⟨g, o, none⟩ vs
  | [], _, _ => .nil
  | v :: vs, o, h => .cons (.old (h.cell 0 v rfl) hx) (Old.rdN hx ⟨fun j u hj => by have := h.cell (j + 1) u hj; rwa [show o + (j + 1) = o + 1 + j by omega] at this⟩)
theorem Old.take {w : World} {g o : Nat} {vs : List Value} (h : Old w g o vs) (k : Nat) : Old w g o (vs.take k) := ⟨fun j v hj => h.cell j v (by
  rw [nth_eq, List.getElem?_take] at hj
  split at hj
  · rw [nth_eq]; exact hj
  · cases hj)⟩
theorem SlB.vw {w0 : World} {L : List Chunk} {a : Option Addr} {len : Nat} {zs : List Int} (h : SlB w0 a len zs) : Vw [] w0 L a (zs.map (Value.int .u8)) := by
  obtain ⟨h1, h2⟩ := h
  rcases h2 with h2 | ⟨g, o, rfl, hO⟩
  · have : zs = [] := List.eq_nil_of_length_eq_zero (by omega)
    subst this
    cases a with
    | none => exact .inl ⟨rfl, rfl⟩
    | some p => exact .inr ⟨p, rfl, .nil⟩
  · exact .inr ⟨_, rfl, hO.rdN (by simp)⟩
theorem SlB.ch {w w' : World} {a : Option Addr} {len : Nat} {zs : List Int} (h : SlB w a len zs) (hC : Ch [] w w') : SlB w' a len zs := by
  obtain ⟨h1, h2⟩ := h
  refine ⟨h1, h2.imp id ?_⟩
  rintro ⟨g, o, e, hO⟩
  exact ⟨g, o, e, hO.ch hC (by simp)⟩
theorem SlB.take {w : World} {a : Option Addr} {len : Nat} {zs : List Int} (h : SlB w a len zs) (k : Nat) (hk : k ≤ len) : SlB w a k (zs.take k) := by
  obtain ⟨h1, h2⟩ := h
  refine ⟨by simp; omega, ?_⟩
  rcases h2 with h2 | ⟨g, o, e, hO⟩
  · exact .inl (by omega)
  · exact .inr ⟨g, o, e, by rw [List.map_take]; exact hO.take k⟩
theorem BS.slB {w : World} {a : Option Addr} {len cap : Nat} {zs : List Int} (h : BS w a len cap zs) : SlB w a len zs := by
  refine ⟨h.length, ?_⟩
  by_cases h0 : len = 0
  · exact .inl h0
  · obtain ⟨b, off, rfl, _, hc⟩ := h.cells (by omega)
    refine .inr ⟨b, off, rfl, ⟨fun j v hj => ?_⟩⟩
    rw [nth_eq, List.getElem?_map, Option.map_eq_some_iff] at hj
    obtain ⟨x, hx, rfl⟩ := hj
    have hlt : j < zs.length := (List.getElem?_eq_some_iff.1 hx).1
    have := hc j (by have := h.length; omega)
    rwa [List.getD_eq_getElem?_getD, hx, Option.getD_some] at this
def outI (zs : List Int) (kb nb : Nat → Int) (c : Int) (k : Nat) : List Int := (List.range zs.length).map fun i => if i < k then bits .xor .u8 (zs.getD i 0) (strm kb nb c i) else 0
theorem outX_eq (zs : List Int) (kb nb : Nat → Int) (c : Int) (k : Nat) : outX zs kb nb c k = (outI zs kb nb c k).map (Value.int .u8) := by
  unfold outX outI
  rw [List.map_map]; rfl
theorem outI_len (zs : List Int) (kb nb : Nat → Int) (c : Int) (k : Nat) : (outI zs kb nb c k).length = zs.length := by simp [outI]
theorem outX_take (zs : List Int) (kb nb : Nat → Int) (c : Int) (j k : Nat) (hj : zs.length ≤ j) (h : k ≤ zs.length) : (outX zs kb nb c j).take k = outX (zs.take k) kb nb c k := by
  apply List.ext_getElem
  · simp [outX]
  · intro i h1 h2
    have hi : i < k := by simp [outX] at h1; omega
    simp only [outX, List.getElem_take, List.getElem_map, List.getElem_range]
    rw [if_pos (by omega), if_pos hi, List.getD_eq_getElem?_getD, List.getD_eq_getElem?_getD, List.getElem?_take, if_pos hi]
theorem xor8_self (z s : Int) (hz : 0 ≤ z ∧ z ≤ 255) (hs : 0 ≤ s ∧ s ≤ 255) : bits .xor .u8 (bits .xor .u8 z s) s = z := by
  obtain ⟨n, rfl⟩ := Int.eq_ofNat_of_zero_le hz.1
  obtain ⟨m, rfl⟩ := Int.eq_ofNat_of_zero_le hs.1
  have h1 : n < 256 := by omega
  have h2 : m < 256 := by omega
  have h3 : n ^^^ m < 256 := Nat.xor_lt_two_pow (n := 8) h1 h2
  rw [u8_xor_nat n m h1 h2, u8_xor_nat _ m h3 h2, Nat.xor_assoc, Nat.xor_self, Nat.xor_zero]
theorem xor8_comm (z s : Int) (hz : 0 ≤ z ∧ z ≤ 255) (hs : 0 ≤ s ∧ s ≤ 255) : bits .xor .u8 z s = bits .xor .u8 s z := by
  obtain ⟨n, rfl⟩ := Int.eq_ofNat_of_zero_le hz.1
  obtain ⟨m, rfl⟩ := Int.eq_ofNat_of_zero_le hs.1
  rw [u8_xor_nat n m (by omega) (by omega), u8_xor_nat m n (by omega) (by omega), Nat.xor_comm]
theorem getD_bd {zs : List Int} (h : ∀ x ∈ zs, 0 ≤ x ∧ x ≤ 255) (i : Nat) : 0 ≤ zs.getD i 0 ∧ zs.getD i 0 ≤ 255 := by
  rw [List.getD_eq_getElem?_getD]
  cases hi : zs[i]? with
  | none => simp
  | some x => exact h x (List.mem_of_getElem? hi)
theorem outI_get (zs : List Int) (kb nb : Nat → Int) (c : Int) (k i : Nat) (h : i < zs.length) : (outI zs kb nb c k)[i]'(by rw [outI_len]; exact h) = if i < k then bits .xor .u8 (zs.getD i 0) (strm kb nb c i) else 0 := by simp [outI]
theorem outI_twice (zs : List Int) (hz : ∀ x ∈ zs, 0 ≤ x ∧ x ≤ 255) (kb nb : Nat → Int) (c : Int) : outI (outI zs kb nb c zs.length) kb nb c zs.length = zs := by
  apply List.ext_getElem
  · simp [outI]
  · intro i h1 h2
    have e : (outI zs kb nb c zs.length).getD i 0 = bits .xor .u8 (zs.getD i 0) (strm kb nb c i) := by
      rw [List.getD_eq_getElem?_getD, List.getElem?_eq_getElem (by rw [outI_len]; exact h2), Option.getD_some]
      simp [outI, h2]
    rw [outI_get _ _ _ _ _ _ (by rw [outI_len]; exact h2), if_pos h2, e, xor8_self _ _ (getD_bd hz i) (strm_bd _ _ _ _)]
    rw [List.getD_eq_getElem?_getD, List.getElem?_eq_getElem h2, Option.getD_some]
def mixX (zs : List Int) (kb nb : Nat → Int) (c : Int) (len k : Nat) : List Value := (List.range len).map fun i => .int .u8 (if i < k then bits .xor .u8 (strm kb nb c i) (zs.getD i 0) else strm kb nb c i)
theorem mixX_0 (zs : List Int) (kb nb : Nat → Int) (c : Int) (len : Nat) : mixX zs kb nb c len 0 = strL kb nb c len := by
  unfold mixX strL strI
  rw [List.map_map]
  apply List.map_congr_left
  intro i hi
  simp
theorem mixX_nth (zs : List Int) (kb nb : Nat → Int) (c : Int) (len k : Nat) (h : k < len) : nth (mixX zs kb nb c len k) k = some (.int .u8 (strm kb nb c k)) := by
  rw [nth_eq]; simp [mixX, h]
theorem mixX_len (zs : List Int) (kb nb : Nat → Int) (c : Int) (len k : Nat) : (mixX zs kb nb c len k).length = len := by simp [mixX]
theorem mixX_set (zs : List Int) (kb nb : Nat → Int) (c : Int) (len k : Nat) (h : k < len) : (mixX zs kb nb c len k).set k (.int .u8 (bits .xor .u8 (strm kb nb c k) (zs.getD k 0))) = mixX zs kb nb c len (k + 1) := by
  apply List.ext_getElem
  · simp [mixX]
  · intro i h1 h2
    simp only [mixX, List.getElem_set, List.getElem_map, List.getElem_range]
    by_cases e : k = i
    · subst e; simp
    · rw [if_neg e]
      congr 1
      by_cases h3 : i < k
      · rw [if_pos h3, if_pos (by omega)]
      · rw [if_neg h3, if_neg (by omega)]
theorem mixX_all (zs : List Int) (hz : ∀ x ∈ zs, 0 ≤ x ∧ x ≤ 255) (kb nb : Nat → Int) (c : Int) : mixX zs kb nb c zs.length zs.length = outX zs kb nb c zs.length := by
  unfold mixX outX
  apply List.map_congr_left
  intro i hi
  have : i < zs.length := List.mem_range.1 hi
  rw [if_pos this, if_pos this, xor8_comm _ _ (strm_bd _ _ _ _) (getD_bd hz i)]

set_option maxRecDepth 100000 in
set_option maxHeartbeats 4000000 in
theorem rxor_c (kb nb : Nat → Int) (hk : ∀ i, 0 ≤ kb i ∧ kb i ≤ 255) (hn : ∀ i, 0 ≤ nb i ∧ nb i ≤ 255) (c : Int) (hc : W32 c) (a : Option Addr) (len cap : Nat) (zs : List Int) (hz : ∀ x ∈ zs, 0 ≤ x ∧ x ≤ 255) (hlen : len ≤ 1000000) (hcap : len ≤ cap) (w : World) (hb : SlB w a len zs) :
    CA Try.prog 14 [.agg (keyA kb), .agg (nonA nb), .int .u32 c, .slice a len cap] w (Ret (fun z : Option Addr × Nat => .slice z.1 len z.2) [] (fun z => [.sl z.1 z.2 5 1 (outX zs kb nb c len)]) (fun z => OB z.1 (outX zs kb nb c len) ∧ len ≤ z.2) w) := by
  obtain ⟨hzl, hb⟩ := hb
  refine enter (L := []) (X := []) Try.func14 rfl Try.ntmps14 rfl rfl (Has.nil _) ?_
  repeat (first | refine c_seq ?_ | (refine c_region (id := 0) ?_; refine st_e ?_; refine e_box_agg rfl rfl ?_; refine st_e ?_; refine e_box_agg rfl rfl ?_; refine st_q (by exact q_assign rfl) rfl ?_; refine l_nil ?_) | (refine c_region (id := 1) ?_; refine st_q (by (first | exact q_load_blk rfl (by (repeat (first | exact List.Mem.head _ | apply List.Mem.tail))) (by first | rfl | assumption) | (refine q_load_row rfl ?_ ?_ <;> assumption))) rfl ?_; refine st_q (by (first | exact q_load_blk rfl (by (repeat (first | exact List.Mem.head _ | apply List.Mem.tail))) (by first | rfl | assumption) | (refine q_load_row rfl ?_ ?_ <;> assumption))) rfl ?_; refine st_q (by exact q_move rfl) rfl ?_; refine st_q (by exact q_move rfl) rfl ?_; refine st_q (by (first | exact q_len_sl rfl | exact q_len_str rfl)) rfl ?_; refine st_e ?_; refine e_call (Y := []) rfl rfl (by kernel_rfl) rfl (fun w hC hm hL => rstream_c kb nb hk hn c hc len (by omega) w) (by simp) (List.Sublist.refl _) (by simp) ?_; intro z2 m2 hz2 hnew2 hm2; obtain ⟨b2, cap2⟩ := z2; obtain ⟨hOB2, hcap2⟩ := hz2; refine st_q (by exact q_assign rfl) rfl ?_; refine l_nil ?_) | (refine c_region (id := 2) ?_; refine st_q (by exact q_assign rfl) rfl ?_; refine l_nil ?_) | refine n_then ?_ | refine c_block ?_ | refine c_skip ?_ | refine n_block ?_ | refine c_exit ?_ | refine n_then_exit ?_ | refine n_block_eq ?_ | refine n_block_ne rfl ?_ | refine c_ret ?_ | refine n_then_ret ?_ | refine n_block_ret ?_ | refine c_cond_t rfl ?_ | refine c_cond_f rfl ?_ | refine r_succ ?_ )
  refine chg (L' := [.sl b2 cap2 5 1 (mixX zs kb nb c len 0), .blk (w.heap.size + 1) (.cells (nonA nb) 28 (0, 0)), .blk w.heap.size (.cells (keyA kb) 22 (0, 0))]) (by rw [mixX_0]; rfl) ?_
  refine c_loop (γ := Nat) (fun i => [(10, .int .i64 i), (9, .slice b2 len cap2), (3, .slice a len cap)]) (fun _ => m2) (fun i => [.sl b2 cap2 5 1 (mixX zs kb nb c len i)]) (fun i => i ≤ len) (fun i => len - i) 0 (by omega) ⟨rfl, rfl, rfl, trivial⟩ rfl (by (repeat (first | exact List.Sublist.slnil | apply List.Sublist.cons_cons | apply List.Sublist.cons))) ?_
  intro i hi
  repeat (first | refine c_seq ?_ | (refine c_region (id := 3) ?_; refine st_q (by exact q_move rfl) rfl ?_; refine st_q (by exact q_move rfl) rfl ?_; refine st_q (by (first | exact q_len_sl rfl | exact q_len_str rfl)) rfl ?_; refine st_q (by exact q_lss rfl rfl) rfl ?_; refine l_nil ?_) | refine n_then ?_ | refine c_block ?_ | refine c_skip ?_ | refine n_block ?_ | refine c_exit ?_ | refine n_then_exit ?_ | refine n_block_eq ?_ | refine n_block_ne rfl ?_ | refine c_ret ?_ | refine n_then_ret ?_ | refine n_block_ret ?_ | refine c_cond_t rfl ?_ | refine c_cond_f rfl ?_ | refine r_succ ?_ )
  refine c_cond_dec rfl (fun h2 => ?_) (fun h2 => ?_)
  · have hi2 : i < len := by omega
    rcases hb with hb | ⟨g, o, rfl, hO⟩
    · omega
    rcases hOB2 with ⟨_, h0⟩ | ⟨g2, rfl⟩
    · have := congrArg List.length h0
      rw [strL_len] at this
      simp at this; omega
    have hz1 := map_nth zs i (by omega)
    have hz2 := mixX_nth zs kb nb c len i hi2
    have hsx := mixX_len zs kb nb c len i
    have hfr : w.heap.size ≤ g2 := by
      have := hnew2 g2 (by simp [feet, Chunk.foot])
      simp at this; omega
    repeat (first | refine c_seq ?_ | (refine c_region (id := 4) ?_; refine st_q (by exact q_move rfl) rfl ?_; refine st_q (by exact q_add64 rfl rfl ⟨by omega, by omega⟩ (by first | (simp only [Nat.zero_add, Nat.add_zero, Nat.mul_one, Nat.one_mul, Int.toNat_natCast, Int.reduceToNat, Nat.reduceMul, Nat.reduceAdd, Nat.reduceSub, Int.reduceAdd, Int.reduceSub, Int.reduceMul, Nat.sub_zero, Int.toNat_zero, Int.zero_add, Int.add_zero, Int.sub_zero, Int.mul_one, Int.one_mul]; try exact rfl) | exact rfl)) rfl ?_; refine st_q (by exact q_assign rfl) rfl ?_; refine l_nil ?_) | (refine x_region (id := 5) (some 12) [(0, .q), (1, .q), (2, .q), (3, .q), (4, .q), (5, .q), (6, .q), (7, .q), (8, .q), (9, .q), (10, .q), (11, .q), (12, .b)] _ mixed (by kernel_rfl) (List.Sublist.refl _) ?_; refine x_q rfl (by exact q_move rfl) rfl ?_; refine x_q rfl (by exact q_move rfl) rfl ?_; refine x_q rfl (by exact q_move rfl) rfl ?_; refine x_q rfl (by exact q_move rfl) rfl ?_; refine x_q rfl (by exact q_indexAddr_sl (o' := i) rfl rfl (by omega) (by omega) (by omega)) rfl ?_; refine x_q rfl (by exact q_load rfl (by (first | exact Rd.blkn (by (repeat (first | exact List.Mem.head _ | apply List.Mem.tail))) (by first | rfl | assumption) | exact Rd.sln (by (repeat (first | exact List.Mem.head _ | apply List.Mem.tail))) (by first | rfl | assumption) | exact Rd.oldn (by assumption) (by first | rfl | assumption) (by simp) | exact Rd.old0 (by assumption) (by simp)))) rfl ?_; refine x_q rfl (by exact q_move rfl) rfl ?_; refine x_q rfl (by exact q_move rfl) rfl ?_; refine x_q rfl (by exact q_indexAddr_sl (o' := o + i) rfl rfl (by omega) (by omega) (by omega)) rfl ?_; refine x_q rfl (by exact q_load rfl (by (first | exact Rd.blkn (by (repeat (first | exact List.Mem.head _ | apply List.Mem.tail))) (by first | rfl | assumption) | exact Rd.sln (by (repeat (first | exact List.Mem.head _ | apply List.Mem.tail))) (by first | rfl | assumption) | exact Rd.oldn (by assumption) (by first | rfl | assumption) (by simp) | exact Rd.old0 (by assumption) (by simp)))) rfl ?_; refine x_q rfl (by exact q_xor rfl rfl) rfl ?_; refine x_q rfl (by exact q_indexAddr_sl (o' := i) rfl rfl (by omega) (by omega) (by omega)) rfl ?_; refine x_b rfl ?_; (first | refine e_store1l rfl rfl rfl (by (repeat (first | exact List.Mem.head _ | apply List.Mem.tail))) (by first | (simp only [setL]; try exact rfl) | exact rfl) (by (repeat (first | exact Pl.here | apply Pl.there))) rfl (by first | (left; simp; done) | (right; omega)) ?_ | refine e_store1 rfl rfl rfl (by (repeat (first | exact Pl.here | apply Pl.there))) (by first | exact lt_of_blt rfl | omega | (simp only [Array.size_setIfInBounds, setA_size]; omega)) (by first | (left; simp; done) | (right; omega)) ?_ | refine e_store_sl rfl rfl rfl (by (repeat (first | exact Pl.here | apply Pl.there))) (by omega) (by first | (left; simp; done) | (right; omega)) ?_); refine x_k (List.nil_sublist _) ?_; refine x_nil ?_) | refine n_then ?_ | refine c_block ?_ | refine c_skip ?_ | refine n_block ?_ | refine c_exit ?_ | refine n_then_exit ?_ | refine n_block_eq ?_ | refine n_block_ne rfl ?_ | refine c_ret ?_ | refine n_then_ret ?_ | refine n_block_ret ?_ | refine c_cond_t rfl ?_ | refine c_cond_f rfl ?_ | refine r_succ ?_ )
    refine chg (L' := [.sl (some ⟨g2, 0, none⟩) cap2 5 1 (mixX zs kb nb c len (i + 1))]) (by rw [mixX_set _ _ _ _ _ _ hi2]) ?_
    refine c_round (i + 1) (by omega) (by omega) ⟨rfl, rfl, rfl, trivial⟩ (by rfl) (by (repeat (first | exact List.Sublist.slnil | apply List.Sublist.cons_cons | apply List.Sublist.cons)))
  · obtain rfl : i = len := by omega
    repeat (first | refine c_seq ?_ | (refine c_region (id := 6) ?_; refine st_q (by exact q_move rfl) rfl ?_; refine st_q (by exact q_assign rfl) rfl ?_; refine l_nil ?_) | refine n_then ?_ | refine c_block ?_ | refine c_skip ?_ | refine n_block ?_ | refine c_exit ?_ | refine n_then_exit ?_ | refine n_block_eq ?_ | refine n_block_ne rfl ?_ | refine c_ret ?_ | refine n_then_ret ?_ | refine n_block_ret ?_ | refine c_cond_t rfl ?_ | refine c_cond_f rfl ?_ | refine r_succ ?_ )
    have e : mixX zs kb nb c i i = outX zs kb nb c i := by rw [← hzl]; exact mixX_all zs hz kb nb c
    have hOB : OB b2 (outX zs kb nb c i) := by
      rcases hOB2 with ⟨h0, h1⟩ | h0
      · refine .inl ⟨h0, ?_⟩
        have := congrArg List.length h1
        rw [strL_len] at this
        apply List.eq_nil_of_length_eq_zero
        rw [outX_len, hzl]; simpa using this
      · exact .inr h0
    rw [e]
    (first | apply r_ret (b2, cap2) | apply r_end (b2, cap2)); exact rfl; exact rfl; exact (.tmp rfl .nil); exact rfl; exact (List.Sublist.refl _); exact (new_sl (fun g hg => by have := hnew2 g (by cases b2 <;> simpa [feet, Chunk.foot] using hg); exact this.elim (fun h => .inl h) (fun h => .inr (by omega))) new_nil); exact ⟨hOB, hcap2⟩

def nbX (kb : Nat → Int) : Nat → Int | 11 => kb 2 | _ => 0
theorem nbX_bd (kb : Nat → Int) (hk : ∀ i, 0 ≤ kb i ∧ kb i ≤ 255) (i : Nat) : 0 ≤ nbX kb i ∧ nbX kb i ≤ 255 := by
  unfold nbX
  split
  · exact hk 2
  · omega
set_option maxRecDepth 100000 in
set_option maxHeartbeats 4000000 in
theorem xors_yes (kb : Nat → Int) (hk : ∀ i, 0 ≤ kb i ∧ kb i ≤ 255) (c : Int) (hc : W32 c) (a : Option Addr) (len cap : Nat) (zs : List Int) (hz : ∀ x ∈ zs, 0 ≤ x ∧ x ≤ 255) (hlen : len ≤ 600) (hcap : len ≤ cap) (w : World) (hb : SlB w a len zs) :
    CA Try.prog 6 [.agg (keyA kb), .int .u32 c, .slice a len cap] w (RV (.bool true) w) := by
  have hn := nbX_bd kb hk
  obtain ⟨nb, hnb⟩ : ∃ nb, nb = nbX kb := ⟨_, rfl⟩
  rw [← hnb] at hn
  have hzl := hb.1
  refine enter (L := []) (X := []) Try.func6 rfl Try.ntmps6 rfl rfl (Has.nil _) ?_
  repeat (first | refine c_seq ?_ | (refine c_region (id := 0) ?_; refine st_e ?_; refine e_box_agg rfl rfl ?_; refine st_q (by exact q_assign rfl) rfl ?_; refine l_nil ?_) | (refine c_region (id := 1) ?_; refine st_e ?_; refine e_callp rfl rfl (by kernel_rfl) rfl (fun w hC hm hL => awake_c w) ?_; intro m' hm'; refine st_q (by exact q_not rfl) rfl ?_; refine st_q (by exact q_move rfl) rfl ?_; (first | refine st_skip rfl rfl rfl ?_ | (refine st_want rfl rfl ?_; refine st_q (by exact q_move rfl) rfl ?_)); (first | refine st_skip rfl rfl rfl ?_ | (refine st_want rfl rfl ?_; refine st_q (by (first | exact q_len_sl rfl | exact q_len_str rfl)) rfl ?_)); (first | refine st_skip rfl rfl rfl ?_ | (refine st_want rfl rfl ?_; refine st_q (by (first | exact Qt.cast (congrArg Value.bool (decide_eq_true (by omega))) (q_gtr rfl rfl) | exact Qt.cast (congrArg Value.bool (decide_eq_false (by omega))) (q_gtr rfl rfl))) rfl ?_)); refine st_q (by (first | exact q_pick_t rfl rfl | exact q_pick_f rfl rfl)) rfl ?_; refine l_nil ?_) | (refine c_region (id := 3) ?_; refine st_q (by exact q_move rfl) rfl ?_; refine st_q (by exact q_conv_bytes (xs := zs) rfl hb.vw hzl) rfl ?_; refine st_q (by exact q_assign rfl) rfl ?_; refine l_nil ?_) | (refine c_region (id := 4) ?_; refine st_q (by exact q_indexAddr_arr rfl rfl (by omega) (by omega) (by first | (simp only [Nat.zero_add, Nat.add_zero, Nat.mul_one, Nat.one_mul, Int.toNat_natCast, Int.reduceToNat, Nat.reduceMul, Nat.reduceAdd, Nat.reduceSub, Int.reduceAdd, Int.reduceSub, Int.reduceMul, Nat.sub_zero, Int.toNat_zero, Int.zero_add, Int.add_zero, Int.sub_zero, Int.mul_one, Int.one_mul]; try exact rfl) | exact rfl)) rfl ?_; refine st_q (by exact q_load rfl (by (first | exact Rd.blkn (by (repeat (first | exact List.Mem.head _ | apply List.Mem.tail))) (by first | rfl | assumption) | exact Rd.sln (by (repeat (first | exact List.Mem.head _ | apply List.Mem.tail))) (by first | rfl | assumption) | exact Rd.oldn (by assumption) (by first | rfl | assumption) (by simp) | exact Rd.old0 (by assumption) (by simp)))) rfl ?_; refine st_q (by exact q_build_arr rfl (by (try simp only [List.replicate]); exact rfl) (by first | (simp only [fillC, placeA, nthP, plOff, setLs, setL, Value.cells, List.replicate, Nat.mul_one, Nat.one_mul, Nat.zero_mul]; try exact rfl) | exact rfl) (by rfl)) rfl ?_; refine st_e ?_; refine e_alloc rfl ?_; refine st_e0 ?_; refine e_store_all rfl rfl (by rfl) (by rfl) (by (repeat (first | exact Pl.here | apply Pl.there))) (by rfl) (by first | (left; simp; done) | (right; omega)) ?_; refine l_nil ?_) | refine n_then ?_ | refine c_block ?_ | refine c_skip ?_ | refine n_block ?_ | refine c_exit ?_ | refine n_then_exit ?_ | refine n_block_eq ?_ | refine n_block_ne rfl ?_ | refine c_ret ?_ | refine n_then_ret ?_ | refine n_block_ret ?_ | refine c_cond_t rfl ?_ | refine c_cond_f rfl ?_ | refine r_succ ?_ )
  have hq : (#[.int .u8 0, .int .u8 0, .int .u8 0, .int .u8 0, .int .u8 0, .int .u8 0, .int .u8 0, .int .u8 0, .int .u8 0, .int .u8 0, .int .u8 0, .int .u8 (kb 2)] : Array Value) = nonA nb := by rw [hnb]; rfl
  rw [hq]
  repeat (first | refine c_seq ?_ | (refine c_region (id := 5) ?_; refine st_q (by (first | exact q_load_blk rfl (by (repeat (first | exact List.Mem.head _ | apply List.Mem.tail))) (by first | rfl | assumption) | (refine q_load_row rfl ?_ ?_ <;> assumption))) rfl ?_; refine st_q (by (first | exact q_load_blk rfl (by (repeat (first | exact List.Mem.head _ | apply List.Mem.tail))) (by first | rfl | assumption) | (refine q_load_row rfl ?_ ?_ <;> assumption))) rfl ?_; refine st_q (by exact q_move rfl) rfl ?_; refine st_q (by exact q_move rfl) rfl ?_; refine st_e ?_; refine e_call (Y := []) rfl rfl (by kernel_rfl) rfl (fun w hC hm hL => xor_c kb nb hk hn c hc a len cap zs (by omega) hcap w (hb.ch hC)) (by simp) (List.Sublist.refl _) (by simp) ?_; intro g1 m1 _ hnew1 hm1; refine st_q (by exact q_assign rfl) rfl ?_; refine l_nil ?_) | refine n_then ?_ | refine c_block ?_ | refine c_skip ?_ | refine n_block ?_ | refine c_exit ?_ | refine n_then_exit ?_ | refine n_block_eq ?_ | refine n_block_ne rfl ?_ | refine c_ret ?_ | refine n_then_ret ?_ | refine n_block_ret ?_ | refine c_cond_t rfl ?_ | refine c_cond_f rfl ?_ | refine r_succ ?_ )
  repeat (first | refine c_seq ?_ | (refine c_region (id := 6) ?_; refine st_q (by (first | exact q_load_blk rfl (by (repeat (first | exact List.Mem.head _ | apply List.Mem.tail))) (by first | rfl | assumption) | (refine q_load_row rfl ?_ ?_ <;> assumption))) rfl ?_; refine st_q (by (first | exact q_load_blk rfl (by (repeat (first | exact List.Mem.head _ | apply List.Mem.tail))) (by first | rfl | assumption) | (refine q_load_row rfl ?_ ?_ <;> assumption))) rfl ?_; refine st_q (by exact q_move rfl) rfl ?_; refine st_q (by exact q_move rfl) rfl ?_; refine st_e ?_; refine e_call (Y := []) rfl rfl (by kernel_rfl) rfl (fun w hC hm hL => xor_c kb nb hk hn c hc _ len len (outI zs kb nb c len) (by omega) (by omega) w ⟨by rw [outI_len]; exact hzl, .inr ⟨_, _, rfl, hL.old_sl (k := len) (by (repeat (first | exact List.Mem.head _ | apply List.Mem.tail))) (by rw [outX_eq, List.drop_zero, List.take_of_length_le (by rw [List.length_map, outI_len]; omega)])⟩⟩) (by simp) (List.Sublist.refl _) (by simp) ?_; intro g2 m2 _ hnew2 hm2; refine st_q (by exact q_assign rfl) rfl ?_; refine l_nil ?_) | refine n_then ?_ | refine c_block ?_ | refine c_skip ?_ | refine n_block ?_ | refine c_exit ?_ | refine n_then_exit ?_ | refine n_block_eq ?_ | refine n_block_ne rfl ?_ | refine c_ret ?_ | refine n_then_ret ?_ | refine n_block_ret ?_ | refine c_cond_t rfl ?_ | refine c_cond_f rfl ?_ | refine r_succ ?_ )
  have htw : outX (outI zs kb nb c len) kb nb c len = zs.map (Value.int .u8) := by
    rw [outX_eq]
    have := outI_twice zs hz kb nb c
    rw [hzl] at this
    rw [this]
  rw [htw]
  have hx1 : (outX zs kb nb c len).length = len := by rw [outX_len]; exact hzl
  repeat (first | refine c_seq ?_ | (refine x_region (id := 7) none [(0, .q), (1, .q), (2, .q), (3, .q), (4, .q), (5, .q), (6, .e), (7, .e), (8, .q), (9, .q), (10, .q), (11, .q), (12, .q), (13, .q), (14, .q), (15, .q), (16, .q), (17, .q), (18, .q), (19, .q), (20, .q), (21, .q)] _ mixed (by kernel_rfl) (List.Sublist.refl _) ?_; refine x_q rfl (by exact q_move rfl) rfl ?_; refine x_q rfl (by exact q_conv_bytes (xs := outI zs kb nb c len) rfl (by rw [← outX_eq]; exact Vw.own (xs := outX zs kb nb c len) (.inr ⟨_, rfl⟩) (by (repeat (first | exact List.Mem.head _ | apply List.Mem.tail)))) (by rw [outI_len]; exact hzl)) rfl ?_; refine x_q rfl (by (first | exact q_load_blk rfl (by (repeat (first | exact List.Mem.head _ | apply List.Mem.tail))) (by first | rfl | assumption) | (refine q_load_row rfl ?_ ?_ <;> assumption))) rfl ?_; refine x_q rfl (by (first | exact q_load_blk rfl (by (repeat (first | exact List.Mem.head _ | apply List.Mem.tail))) (by first | rfl | assumption) | (refine q_load_row rfl ?_ ?_ <;> assumption))) rfl ?_; refine x_q rfl (by exact q_move rfl) rfl ?_; refine x_q rfl (by exact q_move rfl) rfl ?_; refine x_e rfl ?_; refine e_call (Y := []) rfl rfl (by kernel_rfl) rfl (fun w hC hm hL => rxor_c kb nb hk hn c hc a len cap zs hz (by omega) hcap w (hb.ch hC)) (by simp) (List.Sublist.refl _) (by simp) ?_; intro z3 m3 hz3 hnew3 hm3; obtain ⟨hOB3, hcap3⟩ := hz3; refine x_k (by (repeat (first | exact List.Sublist.slnil | apply List.Sublist.cons_cons | apply List.Sublist.cons))) ?_; refine x_e rfl ?_; refine e_q (by exact q_conv_bytes (xs := outI zs kb nb c len) rfl (by rw [← outX_eq]; exact Vw.own (xs := outX zs kb nb c len) hOB3 (by (repeat (first | exact List.Mem.head _ | apply List.Mem.tail)))) (by rw [outI_len]; exact hzl)) rfl ?_; refine x_k (by (repeat (first | exact List.Sublist.slnil | apply List.Sublist.cons_cons | apply List.Sublist.cons))) ?_; refine x_q rfl (by exact Qt.cast (congrArg Value.bool (beq_self_eq_true _)) (q_eql_str rfl rfl)) rfl ?_; refine x_q rfl (by exact q_move rfl) rfl ?_; (first | refine x_skip rfl rfl rfl rfl ?_ | refine x_qg rfl rfl rfl (by exact q_move rfl) rfl ?_); (first | refine x_skip rfl rfl rfl rfl ?_ | refine x_qg rfl rfl rfl (by exact q_conv_bytes (xs := zs) rfl (Vw.own (xs := zs.map (Value.int .u8)) (.inr ⟨_, rfl⟩) (by (repeat (first | exact List.Mem.head _ | apply List.Mem.tail)))) hzl) rfl ?_); (first | refine x_skip rfl rfl rfl rfl ?_ | refine x_qg rfl rfl rfl (by exact q_move rfl) rfl ?_); (first | refine x_skip rfl rfl rfl rfl ?_ | refine x_qg rfl rfl rfl (by exact Qt.cast (congrArg Value.bool (beq_self_eq_true _)) (q_eql_str rfl rfl)) rfl ?_); refine x_q rfl (by (first | exact q_pick_t rfl rfl | exact q_pick_f rfl rfl)) rfl ?_; refine x_q rfl (by exact q_move rfl) rfl ?_; (first | refine x_skip rfl rfl rfl rfl ?_ | refine x_qg rfl rfl rfl (by exact q_move rfl) rfl ?_); (first | refine x_skip rfl rfl rfl rfl ?_ | refine x_qg rfl rfl rfl (by exact q_conv_bytes (xs := zs) rfl hb.vw hzl) rfl ?_); (first | refine x_skip rfl rfl rfl rfl ?_ | refine x_qg rfl rfl rfl (by exact q_move rfl) rfl ?_); (first | refine x_skip rfl rfl rfl rfl ?_ | refine x_qg rfl rfl rfl (by exact Qt.cast (congrArg Value.bool (beq_self_eq_true _)) (q_eql_str rfl rfl)) rfl ?_); refine x_q rfl (by (first | exact q_pick_t rfl rfl | exact q_pick_f rfl rfl)) rfl ?_; refine x_q rfl (by exact q_assign rfl) rfl ?_; refine x_nil ?_) | refine n_then ?_ | refine c_block ?_ | refine c_skip ?_ | refine n_block ?_ | refine c_exit ?_ | refine n_then_exit ?_ | refine n_block_eq ?_ | refine n_block_ne rfl ?_ | refine c_ret ?_ | refine n_then_ret ?_ | refine n_block_ret ?_ | refine c_cond_t rfl ?_ | refine c_cond_f rfl ?_ | refine r_succ ?_ )
  (first | apply r_ret () | apply r_end ()); exact rfl; exact rfl; exact (.tmp rfl .nil); exact rfl; exact (List.nil_sublist _); exact new_nil; exact trivial
set_option maxRecDepth 100000 in
set_option maxHeartbeats 4000000 in
theorem xors_long (kb : Nat → Int) (c : Int) (a : Option Addr) (len cap : Nat) (hlen : 600 < len) (w : World) :
    CA Try.prog 6 [.agg (keyA kb), .int .u32 c, .slice a len cap] w (RV (.bool true) w) := by
  refine enter (L := []) (X := []) Try.func6 rfl Try.ntmps6 rfl rfl (Has.nil _) ?_
  repeat (first | refine c_seq ?_ | (refine c_region (id := 0) ?_; refine st_e ?_; refine e_box_agg rfl rfl ?_; refine st_q (by exact q_assign rfl) rfl ?_; refine l_nil ?_) | (refine c_region (id := 1) ?_; refine st_e ?_; refine e_callp rfl rfl (by kernel_rfl) rfl (fun w hC hm hL => awake_c w) ?_; intro m' hm'; refine st_q (by exact q_not rfl) rfl ?_; refine st_q (by exact q_move rfl) rfl ?_; (first | refine st_skip rfl rfl rfl ?_ | (refine st_want rfl rfl ?_; refine st_q (by exact q_move rfl) rfl ?_)); (first | refine st_skip rfl rfl rfl ?_ | (refine st_want rfl rfl ?_; refine st_q (by (first | exact q_len_sl rfl | exact q_len_str rfl)) rfl ?_)); (first | refine st_skip rfl rfl rfl ?_ | (refine st_want rfl rfl ?_; refine st_q (by (first | exact Qt.cast (congrArg Value.bool (decide_eq_true (by omega))) (q_gtr rfl rfl) | exact Qt.cast (congrArg Value.bool (decide_eq_false (by omega))) (q_gtr rfl rfl))) rfl ?_)); refine st_q (by (first | exact q_pick_t rfl rfl | exact q_pick_f rfl rfl)) rfl ?_; refine l_nil ?_) | (refine c_region (id := 2) ?_; refine st_e ?_; refine e_callp rfl rfl (by kernel_rfl) rfl (fun w hC hm hL => awake_c w) ?_; intro m' hm'; refine st_q (by exact q_assign rfl) rfl ?_; refine l_nil ?_) | refine n_then ?_ | refine c_block ?_ | refine c_skip ?_ | refine n_block ?_ | refine c_exit ?_ | refine n_then_exit ?_ | refine n_block_eq ?_ | refine n_block_ne rfl ?_ | refine c_ret ?_ | refine n_then_ret ?_ | refine n_block_ret ?_ | refine c_cond_t rfl ?_ | refine c_cond_f rfl ?_ | refine r_succ ?_ )
  (first | apply r_ret () | apply r_end ()); exact rfl; exact rfl; exact (.tmp rfl .nil); exact rfl; exact (List.nil_sublist _); exact new_nil; exact trivial
theorem xorsWalk_ (kb : Nat → Int) (hk : ∀ i, 0 ≤ kb i ∧ kb i ≤ 255) (c : Int) (hc : (Lit.int .u32 c).wf = true) (a : Option Addr) (len cap : Nat) (zs : List Int) {w : World} (hb : BS w a len cap zs) :
    Calls Try.prog 6 #[.agg (keyA kb), .int .u32 c, .slice a len cap] w fun e w' => e = .returned (.bool true) ∧ Below w.heap.size w w' := by
  refine below_ret ?_
  by_cases h0 : 600 < len
  · exact xors_long kb c a len cap h0 w
  · exact xors_yes kb hk c (bounds_u32 hc) a len cap zs hb.rng (by omega) hb.le w hb.slB
end Go.Proofs.Ytgfodhbejcbogaa
