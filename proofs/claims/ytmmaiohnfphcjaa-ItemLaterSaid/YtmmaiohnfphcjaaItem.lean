/- ItemLater. -/
import Derived.Test.YtmmaiohnfphcjaaMem
import Derived.Test.YtmmaiohnfphcjaaU
import Derived.Test.YtmmaiohnfphcjaaEq
import Derived.RegionTactic
import Derived.BigRegion
import Derived.Deep.QuietTactic
import Derived.BigQuiet
import Derived.WalkSmall
import Derived.StillTailTactics
import Derived.Great.Walk
import Derived.WalkLawsBesides
namespace Go.Proofs.Ytmmaiohnfphcjaa
open Go Go.ChangeShapes Go.WideShapes Go.ChangeAt Go.RowKit
set_option linter.unusedVariables false

structure Hd (cs : Array Value) (t x s : Int) : Prop where
  size : cs.size = 125
  time : cs[36]? = some (.int .u64 t)
  writer : cs[0]? = some (.int .i64 x)
  seq : cs[1]? = some (.int .u64 s)

def laterF (t x s t' x' s' : Int) : Bool := if t ≠ t' then decide (t' < t) else if x ≠ x' then decide (x' < x) else decide (s' < s)
def cmpF (a b : Int) : Int := if a < b then -1 else if b < a then 1 else 0
def orF (x y z : Int) : Int := if x ≠ 0 then x else if y ≠ 0 then y else z
theorem wpList_buildTo {P : Program} {ops : Array Oper} {rest : List Oper} {o : Oper} {a : Act} {w : World} {Q : Exit → Act → World → Prop} (hg : o.guard = none) (n : Nat) (hd : o.dst = some n) (t : TypeId) (parts : Array (Nat × Operand)) (ho : o.op = .build t parts) (cells : Array Value)
    (hf : P.built t (parts.map fun (i, x) => (i, a.eval x)).toList = some cells)
    (h : wpList P ops Q rest (a.put o.dst (.agg cells)) w) : wpList P ops Q (o :: rest) a w :=
  wpList_build hg t parts ho (by rw [hf]; rfl) (by rw [hf]; exact h)
theorem ret_bo {b c : Bool} (h : c = b) : Ending.returned (.bool b) = Ending.returned (.bool c) := by rw [h]
theorem ret_in {p : IntKind} {a a' : Int} (h : a' = a) : Ending.returned (.int p a) = Ending.returned (.int p a') := by rw [h]

theorem nanU (a : Int) (w : World) : Calls Try.prog 55 #[.int .u64 a] w fun e w' => e = .returned (.bool false) ∧ w' = w := by
  go_enter Try.func55, Try.ntmps55
  go_wp2
  go_ret
  exact ⟨by simp, rfl⟩
theorem nanI (a : Int) (w : World) : Calls Try.prog 56 #[.int .i64 a] w fun e w' => e = .returned (.bool false) ∧ w' = w := by
  go_enter Try.func56, Try.ntmps56
  go_wp2
  go_ret
  exact ⟨by simp, rfl⟩

theorem cmpU (a b : Int) (w : World) : Calls Try.prog 49 #[.int .u64 a, .int .u64 b] w fun e w' => e = .returned (.int .i64 (cmpF a b)) ∧ w' = w := by
  have hc : (a < b ∧ cmpF a b = -1 ∧ decide (a < b) = true) ∨ (b < a ∧ cmpF a b = 1 ∧ decide (a < b) = false ∧ decide (b < a) = true) ∨ (cmpF a b = 0 ∧ decide (a < b) = false ∧ decide (b < a) = false) := by
    by_cases h : a < b
    · exact .inl ⟨h, by simp [cmpF, h], by simpa using h⟩
    · by_cases h' : b < a
      · exact .inr (.inl ⟨h', by simp [cmpF, h, h'], by simpa using h, by simpa using h'⟩)
      · exact .inr (.inr ⟨by simp [cmpF, h, h'], by simpa using h, by simpa using h'⟩)
  rcases hc with ⟨h0, h1, h2⟩ | ⟨h0, h1, h2, h3⟩ | ⟨h1, h2, h3⟩
  all_goals
    rw [h1]
    clear h1
    try clear h0
    go_enter Try.func49, Try.ntmps49
    go_wp2_with (go_at_call 55; refine (nanU _ _).mono ?_; rintro e w' ⟨rfl, rfl⟩)
    go_ret
    exact ⟨rfl, rfl⟩

theorem cmpI (a b : Int) (w : World) : Calls Try.prog 50 #[.int .i64 a, .int .i64 b] w fun e w' => e = .returned (.int .i64 (cmpF a b)) ∧ w' = w := by
  have hc : (a < b ∧ cmpF a b = -1 ∧ decide (a < b) = true) ∨ (b < a ∧ cmpF a b = 1 ∧ decide (a < b) = false ∧ decide (b < a) = true) ∨ (cmpF a b = 0 ∧ decide (a < b) = false ∧ decide (b < a) = false) := by
    by_cases h : a < b
    · exact .inl ⟨h, by simp [cmpF, h], by simpa using h⟩
    · by_cases h' : b < a
      · exact .inr (.inl ⟨h', by simp [cmpF, h, h'], by simpa using h, by simpa using h'⟩)
      · exact .inr (.inr ⟨by simp [cmpF, h, h'], by simpa using h, by simpa using h'⟩)
  rcases hc with ⟨h0, h1, h2⟩ | ⟨h0, h1, h2, h3⟩ | ⟨h1, h2, h3⟩
  all_goals
    rw [h1]
    clear h1
    try clear h0
    go_enter Try.func50, Try.ntmps50
    go_wp2_with (go_at_call 56; refine (nanI _ _).mono ?_; rintro e w' ⟨rfl, rfl⟩)
    go_ret
    exact ⟨rfl, rfl⟩

set_option maxHeartbeats 1600000 in
theorem or3 (B : Nat) (x y z : Int) (W : World) (h0 : W.cell? ⟨B, 0, none⟩ = some (.int .i64 x)) (h1 : W.cell? ⟨B, 1, none⟩ = some (.int .i64 y)) (h2 : W.cell? ⟨B, 2, none⟩ = some (.int .i64 z)) :
    Calls Try.prog 48 #[.slice (some ⟨B, 0, none⟩) 3 3] W fun e w' => e = .returned (.int .i64 (orF x y z)) ∧ w' = W := by
  have hc : (orF x y z = x ∧ (x != 0) = true) ∨ (orF x y z = y ∧ (x != 0) = false ∧ (y != 0) = true) ∨ (orF x y z = z ∧ (x != 0) = false ∧ (y != 0) = false ∧ (z != 0) = true) ∨ (orF x y z = 0 ∧ (x != 0) = false ∧ (y != 0) = false ∧ (z != 0) = false) := by
    by_cases hx : x = 0
    · by_cases hy : y = 0
      · by_cases hz : z = 0
        · exact .inr (.inr (.inr ⟨by simp [orF, hx, hy, hz], by simp [hx], by simp [hy], by simp [hz]⟩))
        · exact .inr (.inr (.inl ⟨by simp [orF, hx, hy], by simp [hx], by simp [hy], by simpa using hz⟩))
      · exact .inr (.inl ⟨by simp [orF, hx, hy], by simp [hx], by simpa using hy⟩)
    · exact .inl ⟨by simp [orF, hx], by simpa using hx⟩
  rcases hc with ⟨e, g⟩ | ⟨e, g, g1⟩ | ⟨e, g, g1, g2⟩ | ⟨e, g, g1, g2⟩
  all_goals
    rw [e]
    clear e
    go_enter Try.func48, Try.ntmps48
    go_wp2
    refine wp_loop_rounds 4 ?_
    repeat
      rw [rounds_succ]
      go_wp2
    go_ret
    exact ⟨rfl, rfl⟩

theorem cmp_pos (t x s t' x' s' : Int) : decide (0 < orF (cmpF t t') (cmpF x x') (cmpF s s')) = laterF t x s t' x' s' := by
  unfold orF cmpF laterF
  repeat' split
  all_goals first | omega | (simp; omega) | simp_all

set_option maxRecDepth 100000 in
set_option maxHeartbeats 1600000 in
theorem compare_any (cs cs' : Array Value) (t x s t' x' s' : Int) (H : Hd cs t x s) (H' : Hd cs' t' x' s') (w : World) : Calls Try.prog 39 #[.agg cs, .agg cs'] w fun e w' => e = .returned (.int .i64 (orF (cmpF t t') (cmpF x x') (cmpF s s'))) ∧ Below w.heap.size w w' := by
  have hs := H.size
  have hs' := H'.size
  go_enter Try.func39, Try.ntmps39
  go_wp2
  obtain ⟨W, hW⟩ : ∃ W : World, W = ((w.alloc (.cells cs 48)).alloc (.cells cs' 48)) := ⟨_, rfl⟩
  rw [← hW]
  refine wp_region_still_tail 15 (by kernel_rfl) (by kernel_rfl) ?_
  obtain ⟨V, hV⟩ : ∃ V : World, V = {W with drawn := W.drawn + 1} := ⟨_, rfl⟩
  rw [← hV]
  have hZ : V.heap.size = w.heap.size + 2 := by rw [hV, hW]; simp
  have hB : Below w.heap.size w V := by rw [hV, hW]; exact (((Below.refl _ _).alloc (Nat.le_refl _) _).alloc (by simp) _).drew
  have a36 : V.cell? ⟨w.heap.size, 36, none⟩ = some (.int .u64 t) := by rw [hV, hW]; exact (cell_blk (w := ((w.alloc (.cells cs 48)).alloc (.cells cs' 48))) (heap_alloc2_old w _ _)).trans H.time
  have a0 : V.cell? ⟨w.heap.size, 0, none⟩ = some (.int .i64 x) := by rw [hV, hW]; exact (cell_blk (w := ((w.alloc (.cells cs 48)).alloc (.cells cs' 48))) (heap_alloc2_old w _ _)).trans H.writer
  have a1 : V.cell? ⟨w.heap.size, 1, none⟩ = some (.int .u64 s) := by rw [hV, hW]; exact (cell_blk (w := ((w.alloc (.cells cs 48)).alloc (.cells cs' 48))) (heap_alloc2_old w _ _)).trans H.seq
  have b36 : V.cell? ⟨w.heap.size + 1, 36, none⟩ = some (.int .u64 t') := by rw [hV, hW]; exact (cell_blk (w := ((w.alloc (.cells cs 48)).alloc (.cells cs' 48))) (heap_alloc2_new w _ _)).trans H'.time
  have b0 : V.cell? ⟨w.heap.size + 1, 0, none⟩ = some (.int .i64 x') := by rw [hV, hW]; exact (cell_blk (w := ((w.alloc (.cells cs 48)).alloc (.cells cs' 48))) (heap_alloc2_new w _ _)).trans H'.writer
  have b1 : V.cell? ⟨w.heap.size + 1, 1, none⟩ = some (.int .u64 s') := by rw [hV, hW]; exact (cell_blk (w := ((w.alloc (.cells cs 48)).alloc (.cells cs' 48))) (heap_alloc2_new w _ _)).trans H'.seq
  clear hV hW
  simp only [List.take_succ_cons, List.take_zero, List.drop_succ_cons, List.drop_zero]
  iterate 4 still_step
  still_call (cmpU _ _ _)
  iterate 4 still_step
  still_call (cmpI _ _ _)
  iterate 4 still_step
  still_call (cmpU _ _ _)
  refine wpStill_nil ?_
  go_wp2_with (go_at_call 48; refine (or3 (w.heap.size + 2) (cmpF t t') (cmpF x x') (cmpF s s') _ (by rw [← hZ]; go_simp) (by rw [← hZ]; go_simp) (by rw [← hZ]; go_simp)).mono ?_; rintro e w' ⟨rfl, rfl⟩)
  go_ret
  exact ⟨rfl, hB.alloc (by rw [hZ]; omega) _⟩

set_option maxRecDepth 100000 in
set_option maxHeartbeats 1600000 in
theorem later_any (cs cs' : Array Value) (t x s t' x' s' : Int) (H : Hd cs t x s) (H' : Hd cs' t' x' s') (w : World) : Calls Try.prog 26 #[.agg cs, .agg cs'] w fun e w' => e = .returned (.bool (laterF t x s t' x' s')) ∧ Below w.heap.size w w' := by
  have hs := H.size
  have hs' := H'.size
  go_enter Try.func26, Try.ntmps26
  go_wp2_with (first | (refine wpList_load_row (by rfl) 48 (.tmp 2) (by rfl) (w.heap.size) (by rfl) 48 _ (0, 0) _ (heap_alloc2_old w _ _) Try.underlying48 (by rfl) (by rw [H.size]; kernel_rfl) ?_) | (refine wpList_load_row (by rfl) 48 (.tmp 3) (by rfl) (w.heap.size + 1) (by rfl) 48 _ (0, 0) _ (heap_alloc2_new w _ _) Try.underlying48 (by rfl) (by rw [H'.size]; kernel_rfl) ?_))
  refine (compare_any _ _ _ _ _ _ _ _ H H' _).mono ?_
  rintro e w1 ⟨rfl, hb⟩
  have HB := Lib.hid hb
  clear hb
  go_wp2
  go_ret
  exact ⟨ret_bo (cmp_pos _ _ _ _ _ _).symm, (((Below.refl _ _).alloc (Nat.le_refl _) _).alloc (by simp) _).trans (HB.out.mono (by simp; omega))⟩

set_option maxRecDepth 100000 in
set_option maxHeartbeats 1600000 in
theorem rlater_any (cs cs' : Array Value) (t x s t' x' s' : Int) (H : Hd cs t x s) (H' : Hd cs' t' x' s') (w : World) : Calls Try.prog 28 #[.agg cs, .agg cs'] w fun e w' => e = .returned (.bool (laterF t x s t' x' s')) ∧ Below w.heap.size w w' := by
  have hs := H.size
  have hs' := H'.size
  have hB : Below w.heap.size w ((w.alloc (.cells cs 48)).alloc (.cells cs' 48)) := ((Below.refl _ _).alloc (Nat.le_refl _) _).alloc (by simp) _
  have a36 : ((w.alloc (.cells cs 48)).alloc (.cells cs' 48)).cell? ⟨w.heap.size, 36, none⟩ = some (.int .u64 t) := (cell_blk (w := ((w.alloc (.cells cs 48)).alloc (.cells cs' 48))) (heap_alloc2_old w _ _)).trans H.time
  have a0 : ((w.alloc (.cells cs 48)).alloc (.cells cs' 48)).cell? ⟨w.heap.size, 0, none⟩ = some (.int .i64 x) := (cell_blk (w := ((w.alloc (.cells cs 48)).alloc (.cells cs' 48))) (heap_alloc2_old w _ _)).trans H.writer
  have a1 : ((w.alloc (.cells cs 48)).alloc (.cells cs' 48)).cell? ⟨w.heap.size, 1, none⟩ = some (.int .u64 s) := (cell_blk (w := ((w.alloc (.cells cs 48)).alloc (.cells cs' 48))) (heap_alloc2_old w _ _)).trans H.seq
  have b36 : ((w.alloc (.cells cs 48)).alloc (.cells cs' 48)).cell? ⟨w.heap.size + 1, 36, none⟩ = some (.int .u64 t') := (cell_blk (w := ((w.alloc (.cells cs 48)).alloc (.cells cs' 48))) (heap_alloc2_new w _ _)).trans H'.time
  have b0 : ((w.alloc (.cells cs 48)).alloc (.cells cs' 48)).cell? ⟨w.heap.size + 1, 0, none⟩ = some (.int .i64 x') := (cell_blk (w := ((w.alloc (.cells cs 48)).alloc (.cells cs' 48))) (heap_alloc2_new w _ _)).trans H'.writer
  have b1 : ((w.alloc (.cells cs 48)).alloc (.cells cs' 48)).cell? ⟨w.heap.size + 1, 1, none⟩ = some (.int .u64 s') := (cell_blk (w := ((w.alloc (.cells cs 48)).alloc (.cells cs' 48))) (heap_alloc2_new w _ _)).trans H'.seq
  by_cases h1 : t = t'
  · have n1 : (t != t') = false := by simpa using h1
    by_cases h2 : x = x'
    · have n2 : (x != x') = false := by simpa using h2
      have e := show laterF t x s t' x' s' = decide (s' < s) from by simp [laterF, h1, h2]
      have HE := Lib.hid e
      clear e h1 h2
      go_enter Try.func28, Try.ntmps28
      go_wp2
      go_ret
      exact ⟨ret_bo HE.out, hB⟩
    · have n2 : (x != x') = true := by simpa using h2
      have e := show laterF t x s t' x' s' = decide (x' < x) from by simp [laterF, h1, h2]
      have HE := Lib.hid e
      clear e h1 h2
      go_enter Try.func28, Try.ntmps28
      go_wp2
      go_ret
      exact ⟨ret_bo HE.out, hB⟩
  · have n1 : (t != t') = true := by simpa using h1
    have e := show laterF t x s t' x' s' = decide (t' < t) from by simp [laterF, h1]
    have HE := Lib.hid e
    clear e h1
    go_enter Try.func28, Try.ntmps28
    go_wp2
    go_ret
    exact ⟨ret_bo HE.out, hB⟩

def hdr0 (t : Int) : Array Value := #[.int .i64 0, .int .u64 0, .int .u8 0, .int .u8 0, .int .u8 0, .int .u8 0, .int .u8 0, .int .u8 0, .int .u8 0, .int .u8 0, .int .u8 0, .int .u8 0, .int .u8 0, .int .u8 0, .int .u8 0, .int .u8 0, .int .u8 0, .int .u8 0, .int .u8 0, .int .u8 0, .int .u8 0, .int .u8 0, .int .u8 0, .int .u8 0, .int .u8 0, .int .u8 0, .int .u8 0, .int .u8 0, .int .u8 0, .int .u8 0, .int .u8 0, .int .u8 0, .int .u8 0, .int .u8 0, .int .i64 0, .bool false, .int .u64 t, .int .u8 0, .int .u8 0, .int .u8 0, .int .u8 0, .int .u8 0, .int .u8 0, .int .u8 0, .int .u8 0, .int .u8 0, .int .u8 0, .int .u8 0, .int .u8 0, .int .u8 0, .int .u8 0, .int .u8 0, .int .u8 0, .slice none 0 0, .int .u64 0, .int .u64 0, .int .u64 0, .int .u64 0, .int .u64 0, .int .u64 0, .int .u8 0, .int .u8 0, .int .u8 0, .int .u8 0, .int .u8 0, .int .u8 0, .int .u8 0, .int .u8 0, .int .u8 0, .int .u8 0, .int .u8 0, .int .u8 0, .int .u8 0, .int .u8 0, .int .u8 0, .int .u8 0, .int .u8 0, .int .u8 0, .int .u8 0, .int .u8 0, .int .u8 0, .int .u8 0, .int .u8 0, .int .u8 0, .int .u8 0, .int .u8 0, .int .u8 0, .int .u8 0, .int .u8 0, .int .u8 0, .int .u8 0, .int .u8 0, .int .i64 0, .int .u8 0, .int .u8 0, .int .u8 0, .int .u8 0, .int .u8 0, .int .u8 0, .int .u8 0, .int .u8 0, .int .u8 0, .int .u8 0, .int .u8 0, .int .u8 0, .int .u8 0, .int .u8 0, .int .u8 0, .int .u8 0, .int .u8 0, .int .u8 0, .int .u8 0, .int .u8 0, .int .u8 0, .int .u8 0, .int .u8 0, .int .u8 0, .int .u8 0, .int .u8 0, .int .u8 0, .int .u8 0, .int .u8 0, .int .u8 0, .int .u8 0, .int .u8 0]
theorem hd0 (t : Int) : Hd (hdr0 t) t 0 0 := ⟨by rfl, by rfl, by rfl, by rfl⟩

set_option maxRecDepth 100000 in
set_option maxHeartbeats 1600000 in
theorem awake18 (w : World) : Calls Try.prog 27 #[] w fun e w' => e = .returned (.bool true) ∧ Below w.heap.size w w' := by
  go_enter Try.func27, Try.ntmps27
  go_wp2_with (first | (refine wpList_buildTo (by rfl) 1 (by rfl) 48 _ (by rfl) (hdr0 2) (by kernel_rfl) ?_) | (refine wpList_buildTo (by rfl) 2 (by rfl) 48 _ (by rfl) (hdr0 1) (by kernel_rfl) ?_))
  refine (later_any _ _ 2 0 0 1 0 0 (hd0 2) (hd0 1) _).mono ?_
  rintro e w1 ⟨rfl, hb⟩
  go_wp2
  go_ret
  exact ⟨rfl, hb⟩
end Go.Proofs.Ytmmaiohnfphcjaa
