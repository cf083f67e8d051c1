/- Lists of our own whose elements have several cells: append, deletion in place, clear. -/
import Derived.Test.YtlcckgimagllaaaSs19
import Derived.Test.YtlcckgimagllaaaRl
import Derived.Test.YtlcckgimagllaaaSs17
import Derived.Lib.SliceRun
namespace Go.Proofs.Ytlcckgimagllaaa
open Go Go.RowKit
set_option linter.unusedVariables false
theorem allOne_append : ∀ {a b : List Value}, allOne (a ++ b) = (allOne a && allOne b)
  | [], _ => by simp [allOne]
  | v :: a, b => by simp [allOne, allOne_append (a := a), Bool.and_assoc]
theorem allOne_flat {α : Type} {enc : α → List Value} (h : ∀ x, allOne (enc x) = true) : ∀ (xs : List α), allOne (xs.flatMap enc) = true
  | [] => rfl
  | x :: xs => by rw [List.flatMap_cons, allOne_append, h, allOne_flat h xs]; rfl
theorem flat_drop {α : Type} {enc : α → List Value} {sz : Nat} (hsz : ∀ x, (enc x).length = sz) : ∀ (xs : List α) (i : Nat), (xs.drop i).flatMap enc = (xs.flatMap enc).drop (i * sz)
  | xs, 0 => by simp
  | [], i + 1 => by simp
  | x :: xs, i + 1 => by
    rw [List.drop_succ_cons, flat_drop hsz xs i, List.flatMap_cons, show (i + 1) * sz = (enc x).length + i * sz by rw [hsz, Nat.succ_mul, Nat.add_comm], List.drop_append, List.drop_of_length_le (Nat.le_add_right _ _), List.nil_append, Nat.add_sub_cancel_left]
theorem flat_take {α : Type} {enc : α → List Value} {sz : Nat} (hsz : ∀ x, (enc x).length = sz) : ∀ (xs : List α) (i : Nat), (xs.take i).flatMap enc = (xs.flatMap enc).take (i * sz)
  | xs, 0 => by simp
  | [], i + 1 => by simp
  | x :: xs, i + 1 => by
    rw [List.take_succ_cons, List.flatMap_cons, List.flatMap_cons, flat_take hsz xs i, show (i + 1) * sz = (enc x).length + i * sz by rw [hsz, Nat.succ_mul, Nat.add_comm], List.take_append, List.take_of_length_le (Nat.le_add_right _ _), Nat.add_sub_cancel_left]
section
variable {P : Program} {n m d : Nat} {T : List (Nat × Value)} {X : List Nat} {w0 : World} {L L' : List Chunk} {K : Act → World → Prop} {Q : Exit → Act → World → Prop}
  {ty t e : TypeId} {pos : String} {af : Array Edge} {gu : Option (Nat × Bool)} {x y : Operand}
theorem e_appF {α : Type} (enc : α → List Value) {sz : Nat} (hsz : ∀ x, (enc x).length = sz) (h1c : ∀ x, allOne (enc x) = true) (zs ys : List α) {b : Option Addr} {len cap bytes len2 cap2 : Nat} {p : Addr} {zz : Array Value} (hx : ev T x = some (.slice b len cap)) (hy : ev T y = some (.slice (some p) len2 cap2)) (hd : Nat.blt d n = true)
    [hu : UT P t (.slice e)] [hs : SzT P e sz] [hb : ByT P e bytes] [hz : ZrT P e zz] (hzs : (Nat.beq zz.size sz && Nat.blt 0 sz) = true) (hr : Rm (.sl b cap e sz (zs.flatMap enc)) L L') (hv : RdN X w0 L p (ys.flatMap enc))
    (hlen : zs.length = len) (hlen2 : ys.length = len2) (ho : OS X w0.heap.size b cap len) (hby : (len + len2) * bytes ≤ 140737488355328) (hl9 : len + len2 ≤ 9223372036854775807)
    (h : ∀ b' cap' m', OS X w0.heap.size b' cap' (len + len2) → m ≤ m' → ∀ a w, SS n ((d, .slice b' (len + len2) cap') :: T) X w0 m' (.sl b' cap' e sz ((zs ++ ys).flatMap enc) :: L') a w → K a w) :
    ∀ a w, SS n T X w0 m L a w → OW P ⟨some d, .call { callee := .builtin .append, args := #[x, y], argTypes := #[t, t] }, ty, pos, af, gu⟩ K Q a w := by
  have hp0 : 0 < sz := by simp only [Bool.and_eq_true] at hzs; exact lt_of_blt hzs.2
  refine e_append (xs := zs.flatMap enc) (news := ys.flatMap enc) hx hy hd hzs hr hv (by rw [flat_len hsz, hlen]) (by rw [flat_len hsz, hlen2]) ho.le ho.max (allOne_flat h1c _) hl9 hby ho.newc ?_
  intro b' cap' m' h1 h2 h3 h4 h5
  rw [← List.flatMap_append] at h1 h5 ⊢
  refine h b' cap' m' ⟨h2, h3, ?_, fun g hg => h1 g (by cases b' <;> exact hg)⟩ h4
  rcases h5 with ⟨h7, h6⟩ | h6
  · have h8 := congrArg List.length h6
    rw [flat_len hsz, List.length_append, hlen, hlen2, List.length_nil] at h8
    exact .inl ⟨h7, (Nat.mul_eq_zero.1 h8).resolve_right (by omega)⟩
  · exact .inr h6
theorem e_del {α : Type} (enc : α → List Value) {sz : Nat} (hsz : ∀ x, (enc x).length = sz) (hp0 : 0 < sz) (h1c : ∀ x, allOne (enc x) = true) (xs : List α) {g cap i j c1 k cap2 : Nat} {q : Addr} (hx : ev T x = some (.slice (some ⟨g, 0, none⟩) i c1)) (hy : ev T y = some (.slice (some q) k cap2)) (hd : Nat.blt d n = true)
    [hu : UT P t (.slice e)] [hs : SzT P e sz] (hk : xs.length - j = k) (hq : k = 0 ∨ q = ⟨g, j * sz, none⟩) (hij : i ≤ j) (hj : j ≤ xs.length) (hc1 : i + k ≤ c1)
    (hp : Pl (.sl (some ⟨g, 0, none⟩) cap e sz (xs.flatMap enc)) (.sl (some ⟨g, 0, none⟩) cap e sz ((xs.take i ++ xs.drop j).flatMap enc)) L L') (hg : g ∈ X ∨ w0.heap.size ≤ g)
    (h : ∀ a w, SS n ((d, .slice (some ⟨g, 0, none⟩) (i + k) c1) :: T) X w0 m L' a w → K a w) :
    ∀ a w, SS n T X w0 m L a w → OW P ⟨some d, .call { callee := .builtin .append, args := #[x, y], argTypes := #[t, t] }, ty, pos, af, gu⟩ K Q a w := by
  intro a w hs'
  obtain ⟨hA, hC, rfl, hL⟩ := hs'
  have hs1 := hs.h
  rw [Option.map_eq_some_iff] at hs1
  obtain ⟨it, hi, rfl⟩ := hs1
  have hb := hL.ok _ hp.mem
  simp only [Chunk.ok] at hb
  rcases hb with ⟨hb, _⟩ | ⟨g', cs, hb, h1, h2, h3⟩
  · simp at hb
  simp only [Option.some.injEq, Addr.mk.injEq, and_true] at hb
  subst hb
  have hfl := flat_len hsz xs
  have hle : xs.length * it.size ≤ cs.size := by have := congrArg List.length h3; simp only [List.length_take, Array.length_toList] at this; omega
  obtain ⟨news, hn⟩ : ∃ news, news = (xs.drop j).flatMap enc := ⟨_, rfl⟩
  have hnl : news.length = k * it.size := by rw [hn, flat_len hsz, List.length_drop, hk]
  have hone : ∀ u ∈ news, u.oneCell' = true := allOne_mem (by rw [hn]; exact allOne_flat h1c _)
  have hfit : i * it.size + news.length ≤ cs.size := by
    rw [hnl, ← Nat.add_mul]
    exact Nat.le_trans (Nat.mul_le_mul_right _ (by omega)) hle
  have hsrc : Src P it.size t (.slice (some q) k cap2) k news w := by
    refine Src.ofSlice w hu.h q k cap2 news hnl (fun u v huv => ?_) hone
    have hlt := (List.getElem?_eq_some_iff.1 huv).1
    have hk0 : k ≠ 0 := by intro h0; rw [hnl, h0] at hlt; simp at hlt
    rw [hq.resolve_left hk0, Addr.add_mid]
    have hO := hL.old_sl (o := 0) (k := (xs.flatMap enc).length) hp.mem (by rw [List.drop_zero, List.take_of_length_le (Nat.le_refl _)])
    have := (hO.drp (j * it.size)).cell u v (by rw [nth_eq, ← flat_drop hsz, ← hn]; exact huv)
    rwa [Nat.zero_add] at this
  have hr := run_append_room_src (P := P) w t t ty e it hu.h hi g 0 i c1 (.slice (some q) k cap2) k news hsrc hc1
    (fun u hu' => by rw [Nat.zero_add, cell_blk h1, Array.getElem?_eq_getElem (by omega)]; rfl) (fun u _ => free_blk h1)
  rw [Nat.zero_add] at hr
  refine wp_value (w' := w.setCells g (i * it.size) news) (v := .slice (some ⟨g, 0, none⟩) (i + k) c1) ?_ (h _ _ ⟨hA.put _ hd, hC.setCells hg _ _, size_setCells _ _ _, Has.repl hp hL (fun k hk => .inl hk) (.inr ⟨g, _, rfl, cellsOf_setCells _ _ _ _ h1, by rw [setA_size]; exact h2, ?_⟩) (fun k _ hk => heap_setCells _ _ _ k (by simpa [Chunk.foot] using hk))⟩)
  · simp only [execOp, resolve, Sem.run_bind, Sem.run_pure, Result.andThen_ok, invoke, List.map_toArray, List.map_cons, List.map_nil, hA.eval hx, hA.eval hy, builtin, hr]
  · rw [setA_toList _ _ _ hfit, List.flatMap_append, ← hn, flat_take hsz]
    have e1 : ((xs.flatMap enc).take (i * it.size)) = cs.toList.take (i * it.size) := by
      rw [← h3, List.take_take, Nat.min_eq_left (by rw [hfl]; exact Nat.mul_le_mul_right _ (by omega))]
    rw [e1]
    exact List.take_left
theorem setA_pre : ∀ (vs : List Value) (cs : Array Value) (o k : Nat), k ≤ o → (setA cs o vs).toList.take k = cs.toList.take k
  | [], _, _, _, _ => rfl
  | v :: vs, cs, o, k, h => by
    rw [setA, setA_pre vs _ _ _ (by omega)]
    rw [Array.toList_setIfInBounds, List.take_set_of_le h]
theorem e_clr {sz : Nat} {g cap o k c1 : Nat} {xs : List Value} {zz : Array Value} (hx : ev T x = some (.slice (some ⟨g, o, none⟩) k c1)) (hd : True)
    [hu : UT P t (.slice e)] [hz : ZrT P e zz] (hzz : allOne zz.toList = true) (hzs : zz.size = sz) (ho : xs.length ≤ o) (hok : o + k * sz ≤ cap * sz)
    (hm : Chunk.sl (some ⟨g, 0, none⟩) cap e sz xs ∈ L) (hg : g ∈ X ∨ w0.heap.size ≤ g)
    (h : ∀ a w, SS n T X w0 m L a w → K a w) :
    ∀ a w, SS n T X w0 m L a w → OW P ⟨none, .call { callee := .builtin .clear, args := #[x], argTypes := #[t] }, ty, pos, af, gu⟩ K Q a w := by
  intro a w hs'
  obtain ⟨hA, hC, rfl, hL⟩ := hs'
  obtain ⟨it, z, h1, h2, h3⟩ := zeroOf_spec hz.h
  have hzv : (zeroValue e).run P w = .ok z w := by simp [zeroValue, typeInfo, h1, h2]
  have hb := hL.ok _ hm
  simp only [Chunk.ok] at hb
  rcases hb with ⟨hb, _⟩ | ⟨g', cs, hb, k1, k2, k3⟩
  · simp at hb
  simp only [Option.some.injEq, Addr.mk.injEq, and_true] at hb
  subst hb
  obtain ⟨news, hn⟩ : ∃ news, news = (Builtin.zeroCells z.cells k).toList := ⟨_, rfl⟩
  have hnl : news.length = k * sz := by rw [hn, Array.length_toList, size_zeroCells, h3, hzs]
  have hone : ∀ u ∈ news, u.oneCell' = true := by
    intro u hu'
    rw [hn, Builtin.zeroCells] at hu'
    simp only [Array.toList_map, List.mem_map, Array.mem_toList_iff, Array.mem_range] at hu'
    obtain ⟨i, hi, rfl⟩ := hu'
    have hpos : 0 < z.cells.size := by
      rcases Nat.eq_zero_or_pos z.cells.size with h0 | h0
      · rw [h0] at hi; simp at hi
      · exact h0
    have hlt : i % z.cells.size < z.cells.size := Nat.mod_lt _ hpos
    rw [getElem!_pos z.cells _ hlt]
    exact allOne_mem hzz _ (by rw [← h3]; exact Array.mem_toList_iff.2 (Array.getElem_mem hlt))
  have hst := run_storeCells_cells (P := P) g o news 0 w (fun j hj => by rw [Nat.add_zero, cell_blk k1, Array.getElem?_eq_getElem (by omega)]; rfl) (fun j _ => free_blk k1) hone
  rw [Nat.add_zero] at hst
  have hr : (Builtin.clear_ #[t] ty #[.slice (some ⟨g, o, none⟩) k c1]).run P w = .ok (.tuple #[]) (w.setCells g o news) := by
    rcases k with _ | k
    · have : news = [] := List.eq_nil_of_length_eq_zero (by rw [hnl]; simp)
      rw [this]
      simp [Builtin.clear_, run_underlying hu.h, World.setCells]
    · simp [Builtin.clear_, run_underlying hu.h, hzv, ← hn, hst]
  refine wp_value (w' := w.setCells g o news) (v := .tuple #[]) ?_ (h _ _ ⟨hA.put_none _, hC.setCells hg _ _, size_setCells _ _ _, ?_⟩)
  · simp only [execOp, resolve, Sem.run_bind, Sem.run_pure, Result.andThen_ok, invoke, List.map_toArray, List.map_cons, List.map_nil, hA.eval hx, builtin, hr]
  · obtain ⟨A, B, rfl⟩ := List.append_of_mem hm
    have hpl : Pl (.sl (some ⟨g, 0, none⟩) cap e sz xs) (.sl (some ⟨g, 0, none⟩) cap e sz xs) (A ++ .sl (some ⟨g, 0, none⟩) cap e sz xs :: B) (A ++ .sl (some ⟨g, 0, none⟩) cap e sz xs :: B) := by
      clear hL hm h
      induction A with
      | nil => exact .here
      | cons c A ih => exact .there ih
    refine Has.repl hpl hL (fun k hk => .inl hk) (.inr ⟨g, _, rfl, cellsOf_setCells _ _ _ _ k1, by rw [setA_size]; exact k2, ?_⟩) (fun k _ hk => heap_setCells _ _ _ k (by simpa [Chunk.foot] using hk))
    rw [setA_pre _ _ _ _ ho]; exact k3
theorem setLs_take (vs l : List Value) (o : Nat) (h : o + vs.length ≤ l.length) : setLs l o vs = l.take o ++ vs ++ l.drop (o + vs.length) := by
  have h1 := congrArg Array.toList (setLs_arr vs l o)
  rw [setA_toList _ _ _ (by simpa using h)] at h1
  simpa using h1
theorem e_buildSlice1 {sz : Nat} {x : Operand} {cs zz : Array Value} (hx : ev T x = some (.agg cs)) (hd : Nat.blt d n = true) [hu : UT P t (.slice e)] [hs : SzT P e sz] [hz : ZrT P e zz] (hcs : cs.size = sz) (hzs : (Nat.beq zz.size sz && Nat.blt 0 sz && Nat.ble sz 1000) = true)
    (h : ∀ a w, SS n ((d, .slice (some ⟨m, 0, none⟩) 1 1) :: T) X w0 (m + 1) (.blk m (.cells cs e) :: L) a w → K a w) :
    ∀ a w, SS n T X w0 m L a w → OW P ⟨some d, .buildSlice t 1 #[(0, x)], ty, pos, af, gu⟩ K Q a w := by
  intro a w hs'
  obtain ⟨hA, hC, rfl, hL⟩ := hs'
  obtain ⟨it, z', h1, h2, h3⟩ := zeroOf_spec hz.h
  have hs := hs.h
  rw [h1, Option.map_some, Option.some.injEq] at hs
  simp only [Bool.and_eq_true] at hzs
  obtain ⟨⟨k1, k2⟩, k3⟩ := hzs
  have k1 := Nat.eq_of_beq_eq_true k1
  have k2 := lt_of_blt k2
  have k3 := Nat.le_of_ble_eq_true k3
  have h6 := fill_of (place := fun i => some (i * sz, sz)) [(0, .agg cs)] zz.toList (by simp [fillOk, Value.cells, hcs, k1])
  have h7 : fillC (fun i => some (i * sz, sz)) zz.toList [(0, .agg cs)] = cs.toList := by
    show setLs zz.toList (0 * sz) cs.toList = _
    rw [Nat.zero_mul, setLs_take _ _ _ (by simp [hcs, k1])]
    simp [hcs, k1]
  rw [h7] at h6
  have e0 : (Array.range (1 * sz)).map (fun i => z'.cells[i % z'.cells.size]!) = zz.toList.toArray := by
    rw [h3]
    apply Array.ext
    · simp [k1]
    · intro i hi1 hi2
      have hi3 : i < zz.size := by simpa using hi2
      simp only [Array.getElem_map, Array.getElem_range, Nat.mod_eq_of_lt hi3]
      rw [getElem!_pos zz i hi3]
  have hr : (Instr.buildSlice t 1 #[(0, .agg cs)]).run P w = .ok (.slice (some ⟨w.heap.size, 0, none⟩) 1 1) (w.alloc (.cells cs e)) := by
    have g1 : ¬ (1 * sz > 2 ^ 24) := by omega
    have g2 : ¬ (1 * sz = 0) := by omega
    simp only [Instr.buildSlice, Sem.run_bind, run_underlying hu.h, sizeOf, typeInfo, program, Sem.run, h1, Result.andThen_ok, hs, if_neg g1, if_neg g2, zeroValue, h2, Sem.run_pure, e0, h6]
    rfl
  refine wp_value (w' := w.alloc (.cells cs e)) (v := .slice (some ⟨w.heap.size, 0, none⟩) 1 1) ?_ (h _ _ ⟨hA.put _ hd, hC.alloc _, by simp, hL.alloc _⟩)
  simp [execOp, hA.eval hx, hr]
/-- What was picked last. -/
theorem Rm.pre (O : List Chunk) (c : Chunk) (R : List Chunk) : Rm c (O ++ c :: R) (O ++ R) := by
  induction O with
  | nil => exact .here
  | cons o O ih => exact .there ih
theorem Sp.pre (O : List Chunk) : ∀ (R : List Chunk), Sp R (O ++ R) O
  | [] => by rw [List.append_nil]; exact .nil
  | c :: R => .cons (Rm.pre O c R) (Sp.pre O R)
theorem Sp.pre2 {O O' : List Chunk} {c : Chunk} (h : Rm c O O') : ∀ (R : List Chunk), Sp (R ++ [c]) (O ++ R) O'
  | [] => by rw [List.append_nil]; exact .cons h .nil
  | r :: R => .cons (Rm.pre O r R) (Sp.pre2 h R)
/-- Only some of the chunks, in another order. -/
theorem fgs {F : Act → World → Prop} {A R : List Chunk} (h : Sp A L R) (k : ∀ a w, SS n T X w0 m A a w → F a w) : ∀ a w, SS n T X w0 m L a w → F a w :=
  fun a w hs => k a w ⟨hs.agr, hs.ch, hs.size, (h.has hs.has).1⟩
end
end Go.Proofs.Ytlcckgimagllaaa
