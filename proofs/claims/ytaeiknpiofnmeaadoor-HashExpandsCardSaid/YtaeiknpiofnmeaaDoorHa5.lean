/- SHA-256: begin, put (by the place alone), putAll. -/
import Derived.Test.YtaeiknpiofnmeaaDoorHa4
namespace Go.Proofs.YtaeiknpiofnmeaaDoor
open Go Go.RowKit
set_option linter.unusedVariables false
set_option linter.unusedSimpArgs false
/-- A digest of which d bytes of X were put in; H: what is held. -/
def DX (Kt : List Nat) (X : List Int) (d : Nat) (H : List Value) : Obj := .cells (dgL (HS (kF Kt) X (d / 64)) (H ++ [.int .i64 ((d % 64 : Nat) : Int), .int .u64 (d : Int)])).toArray 55 (0, 0)
def HD (X : List Int) (d : Nat) (H : List Value) : Prop := HN 64 H (fun q => X.getD (64 * (d / 64) + q) 0) (d % 64)
theorem put_d (Kt : List Nat) (g : Nat) (hgr : g ≠ 1) (X : List Int) (hX : ∀ x ∈ X, 0 ≤ x ∧ x ≤ 255) (d : Nat) (a : Option Addr) (len cap : Nat) (hcap : len ≤ cap) (hd : d + len ≤ X.length) (hbig : X.length ≤ 1000000000) (H : List Value) (hH : HD X d H) (w : World) (hKT : KT w 1 Kt) (hs : SlE (Value.int .u8) w a ((X.drop d).take len)) (hag : ∀ g2 o, a = some ⟨g2, o, none⟩ → 0 < len → g2 ≠ g) (hL : Has [.blk g (DX Kt X (d) (H))] w) :
    CA Tryd.prog 24 [.pointer (some ⟨g, 0, none⟩), .slice a len cap] w (Ret (fun _ : List Value => .tuple #[]) [g] (fun H' => [.blk g (DX Kt X (d + len) (H'))]) (fun H' => HD X (d + len) H') w) := by
  have h1 := put_c Kt g hgr X hX d a len cap hcap hd hbig d H hH w hKT hs hag hL
  have e : (d + len) % 18446744073709551616 = d + len := Nat.mod_eq_of_lt (by omega)
  rw [e] at h1
  exact h1
def zeros64 : List Value := List.replicate 64 (.int .u8 0)
set_option maxRecDepth 100000 in
set_option maxHeartbeats 4000000 in
theorem begin_c (w : World) : CA Tryd.prog 23 [] w (RV (.agg (dgL H0 (zeros64 ++ [.int .i64 0, .int .u64 0])).toArray) w) := by
  refine enter (L := []) (X := []) Tryd.func23 rfl Tryd.ntmps23 rfl rfl (Has.nil _) ?_
  repeat (first | refine c_seq ?_ | (refine c_region (id := 0) ?_; refine st_e ?_; refine e_alloc rfl ?_; refine l_nil ?_) | (refine c_region (id := 1) ?_; refine st_q (by exact q_build_arr rfl (by (try simp only [List.replicate]); exact rfl) (by first | (simp only [fillC, placeA, nthP, plOff, setLs, setL, Value.cells, List.replicate, Nat.mul_one, Nat.one_mul, Nat.zero_mul]; try exact rfl) | exact rfl) (by rfl)) rfl ?_; refine st_q (by exact q_build_struct rfl (by (try simp only [List.replicate]); exact rfl) (by first | (simp only [fillC, placeA, nthP, plOff, setLs, setL, Value.cells, List.replicate, Nat.mul_one, Nat.one_mul, Nat.zero_mul]; try exact rfl) | exact rfl) (by rfl)) rfl ?_; refine st_e0 ?_; refine e_store_all rfl rfl (by rfl) (by rfl) (by (repeat (first | exact Pl.here | apply Pl.there))) (by rfl) (by first | (left; simp; done) | (right; omega)) ?_; refine l_nil ?_) | refine n_then ?_ | refine c_block ?_ | refine c_skip ?_ | refine n_block ?_ | refine c_exit ?_ | refine n_then_exit ?_ | refine n_block_eq ?_ | refine n_block_ne rfl ?_ | refine c_ret ?_ | refine n_then_ret ?_ | refine n_block_ret ?_ | refine c_cond_t rfl ?_ | refine c_cond_f rfl ?_ | refine r_succ ?_ )
  (first | apply r_ret () | apply r_end ()); exact rfl; exact rfl; exact (.row rfl (by (repeat (first | exact List.Mem.head _ | apply List.Mem.tail))) (by rfl) .nil); exact rfl; exact (List.nil_sublist _); exact new_nil; exact trivial
theorem begin_dx (Kt : List Nat) (X : List Int) (g : Nat) : Chunk.blk g (.cells (dgL H0 (zeros64 ++ [.int .i64 0, .int .u64 0])).toArray 55 (0, 0)) = .blk g (DX Kt X (0) (zeros64)) := rfl
theorem begin_hd (X : List Int) : HD X 0 zeros64 := ⟨rfl, rfl⟩
structure Prt where
  a : Option Addr
  len : Nat
  cap : Nat
  xs : List Int
def Prt.v (p : Prt) : Value := .slice p.a p.len p.cap
structure Prt.Ok (w : World) (p : Prt) : Prop where
  s : SlE (Value.int .u8) w p.a p.xs
  l : p.xs.length = p.len
  c : p.len ≤ p.cap
  r : ∀ x ∈ p.xs, 0 ≤ x ∧ x ≤ 255
theorem Prt.Ok.ch {w w' : World} {p : Prt} {X : List Nat} (h : p.Ok w) (hC : Ch X w w') (hx : ∀ g o, p.a = some ⟨g, o, none⟩ → 0 < p.xs.length → g ∉ X) : p.Ok w' := ⟨h.s.chn hC hx, h.l, h.c, h.r⟩
theorem Prt.Ok.lt {w : World} {p : Prt} (h : p.Ok w) : ∀ g o, p.a = some ⟨g, o, none⟩ → 0 < p.len → g < w.heap.size := fun g o e hl => h.s.lt g o e (by rw [h.l]; exact hl)
def joined (ps : List Prt) : List Int := ps.flatMap (·.xs)
def off (ps : List Prt) (i : Nat) : Nat := (joined (ps.take i)).length
theorem part_at {ps : List Prt} {i : Nat} {p : Prt} (h : ps[i]? = some p) (hl : p.xs.length = p.len) : (joined ps).drop (off ps i) = p.xs ++ joined (ps.drop (i + 1)) ∧ off ps (i + 1) = off ps i + p.len ∧ off ps (i + 1) ≤ (joined ps).length := by
  have hi : i < ps.length := (List.getElem?_eq_some_iff.1 h).1
  have hp : ps[i] = p := (List.getElem?_eq_some_iff.1 h).2
  have e0 : ps.take (i + 1) = ps.take i ++ [p] := by rw [List.take_add_one, h]; rfl
  have e1 : joined ps = joined (ps.take i) ++ (p.xs ++ joined (ps.drop (i + 1))) := by
    have h3 : joined (ps.take (i + 1)) = joined (ps.take i) ++ p.xs := by rw [e0]; simp [joined]
    have h2 : joined ps = joined (ps.take (i + 1)) ++ joined (ps.drop (i + 1)) := by
      unfold joined
      rw [← List.flatMap_append, List.take_append_drop]
    rw [h2, h3, List.append_assoc]
  have e2 : off ps (i + 1) = off ps i + p.len := by
    unfold off
    rw [e0]
    simp [joined, hl]
  refine ⟨?_, e2, ?_⟩
  · rw [e1]; unfold off; rw [List.drop_left]
  · rw [e2, e1]; simp [off]; omega
theorem off_all (ps : List Prt) : off ps ps.length = (joined ps).length := by unfold off; rw [List.take_length]
set_option maxRecDepth 100000 in
set_option maxHeartbeats 4000000 in
theorem putAll_c (Kt : List Nat) (g : Nat) (hgr : g ≠ 1) (X : List Int) (hX : ∀ x ∈ X, 0 ≤ x ∧ x ≤ 255) (d0 : Nat) (ps : List Prt) (ap : Option Addr) (cp0 : Nat) (hn : ps.length ≤ 1000) (hXd : (X.drop d0).take (joined ps).length = joined ps) (hlen : d0 + (joined ps).length ≤ X.length) (hbig : X.length ≤ 1000000000) (H : List Value) (hH : HD X d0 H) (w : World) (hKT : KT w 1 Kt) (hps : ∀ p ∈ ps, p.Ok w) (hpg : ∀ p ∈ ps, ∀ g2 o, p.a = some ⟨g2, o, none⟩ → 0 < p.len → g2 ≠ g) (hO : SlE Prt.v w ap ps) (hgp : ∀ g2 o, ap = some ⟨g2, o, none⟩ → 0 < ps.length → g2 ≠ g) (hL : Has [.blk g (DX Kt X (d0) (H))] w) :
    CA Tryd.prog 25 [.pointer (some ⟨g, 0, none⟩), .slice ap ps.length cp0] w (Ret (fun _ : List Value => .tuple #[]) [g] (fun H' => [.blk g (DX Kt X (d0 + (joined ps).length) (H'))]) (fun H' => HD X (d0 + (joined ps).length) H') w) := by
  have hgx : 1 ∉ [g] := by simpa using fun e => hgr e.symm
  have hgX : g ∈ [g] := by simp
  have e00 : off ps 0 = 0 := by simp [off, joined]
  refine enter (L := _) (X := [g]) Tryd.func25 rfl Tryd.ntmps25 rfl rfl hL ?_
  repeat (first | refine c_seq ?_ | (refine c_region (id := 0) ?_; refine st_q (by exact q_move rfl) rfl ?_; refine st_q (by (first | exact q_len_sl rfl | exact q_len_str rfl)) rfl ?_; refine st_q (by exact q_move rfl) rfl ?_; refine l_nil ?_) | refine n_then ?_ | refine c_block ?_ | refine c_skip ?_ | refine n_block ?_ | refine c_exit ?_ | refine n_then_exit ?_ | refine n_block_eq ?_ | refine n_block_ne rfl ?_ | refine c_ret ?_ | refine n_then_ret ?_ | refine n_block_ret ?_ | refine c_cond_t rfl ?_ | refine c_cond_f rfl ?_ | refine r_succ ?_ )
  refine c_loop (γ := Nat × List Value × Nat) (fun z => [(8, .int .i64 z.1), (7, .int .i64 ps.length), (6, .slice ap ps.length cp0), (0, .pointer (some ⟨g, 0, none⟩))]) (fun z => z.2.2) (fun z => [.blk g (DX Kt X (d0 + off ps z.1) (z.2.1))]) (fun z => z.1 ≤ ps.length ∧ HD X (d0 + off ps z.1) z.2.1 ∧ w.heap.size ≤ z.2.2) (fun z => ps.length - z.1) ⟨0, H, w.heap.size⟩ ⟨by simp, by dsimp only; rw [e00]; exact hH, by simp⟩ ⟨rfl, rfl, rfl, rfl, trivial⟩ rfl (by dsimp only; rw [e00]; exact (by (repeat (first | exact List.Sublist.slnil | apply List.Sublist.cons_cons | apply List.Sublist.cons)))) ?_
  rintro ⟨i, H, mm⟩ ⟨hi, hH, hmm⟩
  dsimp only at hi hH hmm ⊢
  repeat (first | refine c_seq ?_ | (refine c_region (id := 1) ?_; refine st_q (by exact q_lss rfl rfl) rfl ?_; refine l_nil ?_) | refine n_then ?_ | refine c_block ?_ | refine c_skip ?_ | refine n_block ?_ | refine c_exit ?_ | refine n_then_exit ?_ | refine n_block_eq ?_ | refine n_block_ne rfl ?_ | refine c_ret ?_ | refine n_then_ret ?_ | refine n_block_ret ?_ | refine c_cond_t rfl ?_ | refine c_cond_f rfl ?_ | refine r_succ ?_ )
  refine c_cond_dec rfl (fun h => ?_) (fun h => ?_)
  · have hi2 : i < ps.length := by omega
    obtain ⟨p, hp⟩ : ∃ p, ps[i]? = some p := ⟨_, List.getElem?_eq_getElem hi2⟩
    have hok := hps p (List.mem_of_getElem? hp)
    have hne := hpg p (List.mem_of_getElem? hp)
    obtain ⟨hP1, hP2, hP3⟩ := part_at hp hok.l
    have hpl := hok.l
    have hpc := hok.c
    have hpx : (X.drop (d0 + off ps i)).take p.len = p.xs := by
      have h1 : ((joined ps).drop (off ps i)).take p.len = p.xs := by rw [hP1, ← hpl, List.take_left]
      rw [← hXd, List.drop_take, List.drop_drop, List.take_take, Nat.min_eq_left (by omega)] at h1
      exact h1
    obtain ⟨gp, op, rfl, hOp⟩ := hO.get hi2
    have hgpn := hgp gp op rfl (by omega)
    have hpv : nth (ps.map Prt.v) i = some (.slice p.a p.len p.cap) := nth_map (enc := Prt.v) hp
    repeat (first | refine c_seq ?_ | (refine c_region (id := 2) ?_; refine st_q (by exact q_indexAddr_sl (o' := op + i) rfl rfl (by omega) (by omega) (by omega)) rfl ?_; refine st_q (by exact q_load rfl (Rd.oldn hOp hpv (by simpa using hgpn))) rfl ?_; refine st_q (by exact q_assign rfl) rfl ?_; refine l_nil ?_) | (refine c_region (id := 3) ?_; refine st_q (by exact q_move rfl) rfl ?_; refine st_q (by exact q_move rfl) rfl ?_; refine st_e ?_; refine e_call (Y := [g]) (L' := []) rfl rfl (by kernel_rfl) rfl (fun w hC hm hL => by exact put_d Kt g hgr X hX (d0 + off ps i) (p.a) (p.len) (p.cap) (hpc) (by omega) hbig _ (hH) w (hKT.ch hC hgx) (by rw [hpx]; exact hok.s.chn hC (fun g2 o e h9 => by simpa using hne g2 o e (by omega))) (hne) (hL.sub (by (repeat (first | exact List.Sublist.slnil | apply List.Sublist.cons_cons | apply List.Sublist.cons))))) (by simp) (List.nil_sublist _) (by simp [feet]) ?_; intro H2 m9 hH2 hn2 hm9; refine l_nil ?_) | (refine c_region (id := 4) ?_; refine st_q (by exact q_add64 rfl rfl ⟨by omega, by omega⟩ (by first | (simp only [Nat.zero_add, Nat.add_zero, Nat.mul_one, Nat.one_mul, Int.toNat_natCast, Int.reduceToNat, Nat.reduceMul, Nat.reduceAdd, Nat.reduceSub, Int.reduceAdd, Int.reduceSub, Int.reduceMul, Nat.sub_zero, Int.toNat_zero, Int.zero_add, Int.add_zero, Int.sub_zero, Int.mul_one, Int.one_mul]; try exact rfl) | exact rfl)) rfl ?_; refine st_q (by exact q_move rfl) rfl ?_; refine l_nil ?_) | refine n_then ?_ | refine c_block ?_ | refine c_skip ?_ | refine n_block ?_ | refine c_exit ?_ | refine n_then_exit ?_ | refine n_block_eq ?_ | refine n_block_ne rfl ?_ | refine c_ret ?_ | refine n_then_ret ?_ | refine n_block_ret ?_ | refine c_cond_t rfl ?_ | refine c_cond_f rfl ?_ | refine r_succ ?_ )
    refine chg (L' := [.blk g (DX Kt X (d0 + off ps (i + 1)) (H2))]) (by rw [hP2, ← Nat.add_assoc]; rfl) ?_
    refine c_round ⟨i + 1, H2, m9⟩ ⟨by dsimp only; omega, by dsimp only; rw [hP2, ← Nat.add_assoc]; exact hH2, by dsimp only; omega⟩ (by dsimp only; omega) ⟨rfl, rfl, rfl, rfl, trivial⟩ (by rfl) (by (repeat (first | exact List.Sublist.slnil | apply List.Sublist.cons_cons | apply List.Sublist.cons)))
  · obtain rfl : i = ps.length := by omega
    rw [off_all] at hH ⊢
    repeat (first | refine c_seq ?_ | refine n_then ?_ | refine c_block ?_ | refine c_skip ?_ | refine n_block ?_ | refine c_exit ?_ | refine n_then_exit ?_ | refine n_block_eq ?_ | refine n_block_ne rfl ?_ | refine c_ret ?_ | refine n_then_ret ?_ | refine n_block_ret ?_ | refine c_cond_t rfl ?_ | refine c_cond_f rfl ?_ | refine r_succ ?_ )
    (first | apply r_ret H | apply r_end H); exact rfl; exact rfl; exact .nil; exact rfl; exact (by exact (by (repeat (first | exact List.Sublist.slnil | apply List.Sublist.cons_cons | apply List.Sublist.cons)))); exact (new_blk (.inl (by simp)) new_nil); exact hH
end Go.Proofs.YtaeiknpiofnmeaaDoor
