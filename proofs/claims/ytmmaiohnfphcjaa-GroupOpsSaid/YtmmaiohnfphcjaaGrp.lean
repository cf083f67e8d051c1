/- Contracts of package group. -/
import Derived.Test.YtmmaiohnfphcjaaMem
import Derived.Test.YtmmaiohnfphcjaaU
import Derived.Test.YtmmaiohnfphcjaaEq
import Derived.RegionTactic
import Derived.BigRegion
import Derived.Deep.QuietTactic
import Derived.BigQuiet
import Derived.WalkSmall
import Derived.WalkLawsBesides
namespace Go.Proofs.Ytmmaiohnfphcjaa
open Go Go.ChangeShapes Go.WideShapes Go.ChangeAt Go.RowKit
set_option linter.unusedVariables false

def ing (n : Int) : Bool := decide (1 ≤ n) && decide (n ≤ 6)
theorem ing_yes {n : Int} (h : 1 ≤ n ∧ n ≤ 6) : ing n = true := by simp [ing, h]
theorem ing_no {n : Int} (h : ¬ (1 ≤ n ∧ n ≤ 6)) : ing n = false := by rw [Bool.eq_false_iff]; simp [ing]; omega
theorem ing_iff {n : Int} : ing n = true ↔ (1 ≤ n ∧ n ≤ 6) := by simp [ing]
theorem ret_bo {b c : Bool} (h : c = b) : Ending.returned (.bool b) = Ending.returned (.bool c) := by rw [h]
theorem six_cases {n : Int} (h : 1 ≤ n ∧ n ≤ 6) : n = 1 ∨ n = 2 ∨ n = 3 ∨ n = 4 ∨ n = 5 ∨ n = 6 := by omega

theorem ing_any (n : Int) (w : World) : Calls Try.prog 42 #[.int .i64 n] w fun e w' => e = .returned (.bool (ing n)) ∧ w = w' := by
  by_cases h : 1 ≤ n
  · have e1 : ing n = decide (n ≤ 6) := by simp [ing, h]
    go_enter Try.func42, Try.ntmps42
    go_wp2
    go_ret
    exact ⟨ret_bo e1, rfl⟩
  · have e1 : ing n = false := by simp [ing, h]
    go_enter Try.func42, Try.ntmps42
    go_wp2
    go_ret
    exact ⟨rfl, rfl⟩

theorem bcell {B : Nat} {W w1 : World} (hb : Below B W w1) : (∀ b o, b < B → w1.cell? ⟨b, o, none⟩ = W.cell? ⟨b, o, none⟩) ∧ (∀ b o, b < B → w1.frozen? ⟨b, o, none⟩ = W.frozen? ⟨b, o, none⟩) :=
  ⟨fun b o h => hb.cell (p := ⟨b, o, none⟩) h, fun b o h => hb.frozen (p := ⟨b, o, none⟩) h⟩

/-- Whether there is such a control. -/
def say (w o n : Int) : Bool := ing w && decide (1 ≤ o) && decide (o ≤ 5) && (if o = 2 ∨ o = 3 ∨ o = 5 then ing n else n == 0)

theorem say_any (a b n : Int) (w : World) : Calls Try.prog 40 #[.int .i64 a, .int .i64 b, .int .i64 n] w fun e w' => e = .returned (.bool (say a b n)) ∧ w = w' := by
  cases hi : ing a
  · go_enter Try.func40, Try.ntmps40
    go_wp2_with (go_at_call 42; refine (ing_any _ _).mono ?_; rintro e w' ⟨rfl, rfl⟩)
    go_ret
    exact ⟨ret_bo (by simp [say, hi]), rfl⟩
  · by_cases h1 : b < 1 ∨ 5 < b
    · have e1 : say a b n = false := by
        rw [Bool.eq_false_iff]; simp [say]; intro _ h2 h3; omega
      rcases h1 with h1 | h1
      all_goals
        go_enter Try.func40, Try.ntmps40
        go_wp2_with (go_at_call 42; refine (ing_any _ _).mono ?_; rintro e w' ⟨rfl, rfl⟩)
        go_ret
        exact ⟨ret_bo e1, rfl⟩
    · rcases (by omega : b = 1 ∨ b = 2 ∨ b = 3 ∨ b = 4 ∨ b = 5) with rfl | rfl | rfl | rfl | rfl
      all_goals
        go_enter Try.func40, Try.ntmps40
        go_wp2_with (go_at_call 42; refine (ing_any _ _).mono ?_; rintro e w' ⟨rfl, rfl⟩)
        go_ret
        exact ⟨ret_bo (by simp [say, hi]), rfl⟩

def isM (m : Nat → Bool) (n : Int) : Bool := ing n && m (n - 1).toNat

set_option maxRecDepth 100000 in
set_option maxHeartbeats 1600000 in
theorem is_no (o e : Int) (m g : Nat → Bool) (c : Nat → Int) (s : Int) (n : Int) (w : World) (h : ing n = false) : Calls Try.prog 32 #[.agg #[.int .i64 o, .int .i64 e, .bool (m 0), .bool (m 1), .bool (m 2), .bool (m 3), .bool (m 4), .bool (m 5), .bool (g 0), .bool (g 1), .bool (g 2), .bool (g 3), .bool (g 4), .bool (g 5), .int .u64 (c 0), .int .u64 (c 1), .int .u64 (c 2), .int .u64 (c 3), .int .u64 (c 4), .int .u64 (c 5), .int .i64 s], .int .i64 n] w fun e w' => e = .returned (.bool (isM m n)) ∧ Below w.heap.size w w' := by
  go_enter Try.func32, Try.ntmps32
  go_wp2_with (go_at_call 42; refine (ing_any _ _).mono ?_; rintro e w' ⟨rfl, rfl⟩)
  go_ret
  exact ⟨ret_bo (by simp [isM, h]), (Below.refl _ _).alloc (Nat.le_refl _) _⟩

set_option maxRecDepth 100000 in
set_option maxHeartbeats 1600000 in
theorem is_any' (o e : Int) (m g : Nat → Bool) (c : Nat → Int) (s : Int) (n : Int) (w : World) : Calls Try.prog 32 #[.agg #[.int .i64 o, .int .i64 e, .bool (m 0), .bool (m 1), .bool (m 2), .bool (m 3), .bool (m 4), .bool (m 5), .bool (g 0), .bool (g 1), .bool (g 2), .bool (g 3), .bool (g 4), .bool (g 5), .int .u64 (c 0), .int .u64 (c 1), .int .u64 (c 2), .int .u64 (c 3), .int .u64 (c 4), .int .u64 (c 5), .int .i64 s], .int .i64 n] w fun e w' => e = .returned (.bool (isM m n)) ∧ Below w.heap.size w w' := by
  cases hi : ing n
  · exact is_no o e m g c s n w hi
  · rcases six_cases (ing_iff.1 hi) with rfl | rfl | rfl | rfl | rfl | rfl
    all_goals
      go_enter Try.func32, Try.ntmps32
      go_wp2_with (go_at_call 42; refine (ing_any _ _).mono ?_; rintro e w' ⟨rfl, rfl⟩)
      go_ret
      exact ⟨ret_bo (by simp [isM, hi]), (Below.refl _ _).alloc (Nat.le_refl _) _⟩

/-- Whether the group allows it (of what may be said). -/
def alw (o : Int) (m g : Nat → Bool) (a b n : Int) : Bool :=
  if b = 1 then o == 0 else if a ≠ o then false else if b = 2 then !isM m n && !g (n - 1).toNat else if b = 3 ∨ b = 5 then isM m n && n != o else true

set_option maxRecDepth 100000 in
set_option maxHeartbeats 1600000 in
theorem alw2_1true (o e : Int) (m g : Nat → Bool) (c : Nat → Int) (s : Int) (w : World) (hm : isM m 1 = true) : Calls Try.prog 41 #[.agg #[.int .i64 o, .int .i64 e, .bool (m 0), .bool (m 1), .bool (m 2), .bool (m 3), .bool (m 4), .bool (m 5), .bool (g 0), .bool (g 1), .bool (g 2), .bool (g 3), .bool (g 4), .bool (g 5), .int .u64 (c 0), .int .u64 (c 1), .int .u64 (c 2), .int .u64 (c 3), .int .u64 (c 4), .int .u64 (c 5), .int .i64 s], .int .i64 o, .int .i64 2, .int .i64 1] w fun e w' => e = .returned (.bool (alw o m g o 2 1)) ∧ Below w.heap.size w w' := by
  go_enter Try.func41, Try.ntmps41
  go_wp2_with (refine wpList_load_row (by rfl) 54 (.tmp 4) (by rfl) (w.heap.size) (by rfl) 54 _ (0, 0) _ (heap_alloc_new w _) Try.underlying54 (by rfl) (by kernel_rfl) ?_)
  refine (is_any' o e m g c s _ _).mono ?_
  rintro e' w1 ⟨rfl, hb1⟩
  have hc1 : w1.cell? ⟨w.heap.size, 8, none⟩ = some (.bool (g 0)) := by rw [hb1.cell (by simp)]; go_simp
  have HB := Lib.hid hb1
  clear hb1
  go_wp2_with fail
  go_ret
  exact ⟨ret_bo (by simp [alw, hm]), ((Below.refl _ _).alloc (Nat.le_refl _) _).trans (HB.out.mono (by simp))⟩
set_option maxRecDepth 100000 in
set_option maxHeartbeats 1600000 in
theorem alw2_1false (o e : Int) (m g : Nat → Bool) (c : Nat → Int) (s : Int) (w : World) (hm : isM m 1 = false) : Calls Try.prog 41 #[.agg #[.int .i64 o, .int .i64 e, .bool (m 0), .bool (m 1), .bool (m 2), .bool (m 3), .bool (m 4), .bool (m 5), .bool (g 0), .bool (g 1), .bool (g 2), .bool (g 3), .bool (g 4), .bool (g 5), .int .u64 (c 0), .int .u64 (c 1), .int .u64 (c 2), .int .u64 (c 3), .int .u64 (c 4), .int .u64 (c 5), .int .i64 s], .int .i64 o, .int .i64 2, .int .i64 1] w fun e w' => e = .returned (.bool (alw o m g o 2 1)) ∧ Below w.heap.size w w' := by
  go_enter Try.func41, Try.ntmps41
  go_wp2_with (refine wpList_load_row (by rfl) 54 (.tmp 4) (by rfl) (w.heap.size) (by rfl) 54 _ (0, 0) _ (heap_alloc_new w _) Try.underlying54 (by rfl) (by kernel_rfl) ?_)
  refine (is_any' o e m g c s _ _).mono ?_
  rintro e' w1 ⟨rfl, hb1⟩
  have hc1 : w1.cell? ⟨w.heap.size, 8, none⟩ = some (.bool (g 0)) := by rw [hb1.cell (by simp)]; go_simp
  have HB := Lib.hid hb1
  clear hb1
  go_wp2_with fail
  go_ret
  exact ⟨ret_bo (by simp [alw, hm]), ((Below.refl _ _).alloc (Nat.le_refl _) _).trans (HB.out.mono (by simp))⟩
set_option maxRecDepth 100000 in
set_option maxHeartbeats 1600000 in
theorem alw2_2true (o e : Int) (m g : Nat → Bool) (c : Nat → Int) (s : Int) (w : World) (hm : isM m 2 = true) : Calls Try.prog 41 #[.agg #[.int .i64 o, .int .i64 e, .bool (m 0), .bool (m 1), .bool (m 2), .bool (m 3), .bool (m 4), .bool (m 5), .bool (g 0), .bool (g 1), .bool (g 2), .bool (g 3), .bool (g 4), .bool (g 5), .int .u64 (c 0), .int .u64 (c 1), .int .u64 (c 2), .int .u64 (c 3), .int .u64 (c 4), .int .u64 (c 5), .int .i64 s], .int .i64 o, .int .i64 2, .int .i64 2] w fun e w' => e = .returned (.bool (alw o m g o 2 2)) ∧ Below w.heap.size w w' := by
  go_enter Try.func41, Try.ntmps41
  go_wp2_with (refine wpList_load_row (by rfl) 54 (.tmp 4) (by rfl) (w.heap.size) (by rfl) 54 _ (0, 0) _ (heap_alloc_new w _) Try.underlying54 (by rfl) (by kernel_rfl) ?_)
  refine (is_any' o e m g c s _ _).mono ?_
  rintro e' w1 ⟨rfl, hb1⟩
  have hc1 : w1.cell? ⟨w.heap.size, 9, none⟩ = some (.bool (g 1)) := by rw [hb1.cell (by simp)]; go_simp
  have HB := Lib.hid hb1
  clear hb1
  go_wp2_with fail
  go_ret
  exact ⟨ret_bo (by simp [alw, hm]), ((Below.refl _ _).alloc (Nat.le_refl _) _).trans (HB.out.mono (by simp))⟩
set_option maxRecDepth 100000 in
set_option maxHeartbeats 1600000 in
theorem alw2_2false (o e : Int) (m g : Nat → Bool) (c : Nat → Int) (s : Int) (w : World) (hm : isM m 2 = false) : Calls Try.prog 41 #[.agg #[.int .i64 o, .int .i64 e, .bool (m 0), .bool (m 1), .bool (m 2), .bool (m 3), .bool (m 4), .bool (m 5), .bool (g 0), .bool (g 1), .bool (g 2), .bool (g 3), .bool (g 4), .bool (g 5), .int .u64 (c 0), .int .u64 (c 1), .int .u64 (c 2), .int .u64 (c 3), .int .u64 (c 4), .int .u64 (c 5), .int .i64 s], .int .i64 o, .int .i64 2, .int .i64 2] w fun e w' => e = .returned (.bool (alw o m g o 2 2)) ∧ Below w.heap.size w w' := by
  go_enter Try.func41, Try.ntmps41
  go_wp2_with (refine wpList_load_row (by rfl) 54 (.tmp 4) (by rfl) (w.heap.size) (by rfl) 54 _ (0, 0) _ (heap_alloc_new w _) Try.underlying54 (by rfl) (by kernel_rfl) ?_)
  refine (is_any' o e m g c s _ _).mono ?_
  rintro e' w1 ⟨rfl, hb1⟩
  have hc1 : w1.cell? ⟨w.heap.size, 9, none⟩ = some (.bool (g 1)) := by rw [hb1.cell (by simp)]; go_simp
  have HB := Lib.hid hb1
  clear hb1
  go_wp2_with fail
  go_ret
  exact ⟨ret_bo (by simp [alw, hm]), ((Below.refl _ _).alloc (Nat.le_refl _) _).trans (HB.out.mono (by simp))⟩
set_option maxRecDepth 100000 in
set_option maxHeartbeats 1600000 in
theorem alw2_3true (o e : Int) (m g : Nat → Bool) (c : Nat → Int) (s : Int) (w : World) (hm : isM m 3 = true) : Calls Try.prog 41 #[.agg #[.int .i64 o, .int .i64 e, .bool (m 0), .bool (m 1), .bool (m 2), .bool (m 3), .bool (m 4), .bool (m 5), .bool (g 0), .bool (g 1), .bool (g 2), .bool (g 3), .bool (g 4), .bool (g 5), .int .u64 (c 0), .int .u64 (c 1), .int .u64 (c 2), .int .u64 (c 3), .int .u64 (c 4), .int .u64 (c 5), .int .i64 s], .int .i64 o, .int .i64 2, .int .i64 3] w fun e w' => e = .returned (.bool (alw o m g o 2 3)) ∧ Below w.heap.size w w' := by
  go_enter Try.func41, Try.ntmps41
  go_wp2_with (refine wpList_load_row (by rfl) 54 (.tmp 4) (by rfl) (w.heap.size) (by rfl) 54 _ (0, 0) _ (heap_alloc_new w _) Try.underlying54 (by rfl) (by kernel_rfl) ?_)
  refine (is_any' o e m g c s _ _).mono ?_
  rintro e' w1 ⟨rfl, hb1⟩
  have hc1 : w1.cell? ⟨w.heap.size, 10, none⟩ = some (.bool (g 2)) := by rw [hb1.cell (by simp)]; go_simp
  have HB := Lib.hid hb1
  clear hb1
  go_wp2_with fail
  go_ret
  exact ⟨ret_bo (by simp [alw, hm]), ((Below.refl _ _).alloc (Nat.le_refl _) _).trans (HB.out.mono (by simp))⟩
set_option maxRecDepth 100000 in
set_option maxHeartbeats 1600000 in
theorem alw2_3false (o e : Int) (m g : Nat → Bool) (c : Nat → Int) (s : Int) (w : World) (hm : isM m 3 = false) : Calls Try.prog 41 #[.agg #[.int .i64 o, .int .i64 e, .bool (m 0), .bool (m 1), .bool (m 2), .bool (m 3), .bool (m 4), .bool (m 5), .bool (g 0), .bool (g 1), .bool (g 2), .bool (g 3), .bool (g 4), .bool (g 5), .int .u64 (c 0), .int .u64 (c 1), .int .u64 (c 2), .int .u64 (c 3), .int .u64 (c 4), .int .u64 (c 5), .int .i64 s], .int .i64 o, .int .i64 2, .int .i64 3] w fun e w' => e = .returned (.bool (alw o m g o 2 3)) ∧ Below w.heap.size w w' := by
  go_enter Try.func41, Try.ntmps41
  go_wp2_with (refine wpList_load_row (by rfl) 54 (.tmp 4) (by rfl) (w.heap.size) (by rfl) 54 _ (0, 0) _ (heap_alloc_new w _) Try.underlying54 (by rfl) (by kernel_rfl) ?_)
  refine (is_any' o e m g c s _ _).mono ?_
  rintro e' w1 ⟨rfl, hb1⟩
  have hc1 : w1.cell? ⟨w.heap.size, 10, none⟩ = some (.bool (g 2)) := by rw [hb1.cell (by simp)]; go_simp
  have HB := Lib.hid hb1
  clear hb1
  go_wp2_with fail
  go_ret
  exact ⟨ret_bo (by simp [alw, hm]), ((Below.refl _ _).alloc (Nat.le_refl _) _).trans (HB.out.mono (by simp))⟩
set_option maxRecDepth 100000 in
set_option maxHeartbeats 1600000 in
theorem alw2_4true (o e : Int) (m g : Nat → Bool) (c : Nat → Int) (s : Int) (w : World) (hm : isM m 4 = true) : Calls Try.prog 41 #[.agg #[.int .i64 o, .int .i64 e, .bool (m 0), .bool (m 1), .bool (m 2), .bool (m 3), .bool (m 4), .bool (m 5), .bool (g 0), .bool (g 1), .bool (g 2), .bool (g 3), .bool (g 4), .bool (g 5), .int .u64 (c 0), .int .u64 (c 1), .int .u64 (c 2), .int .u64 (c 3), .int .u64 (c 4), .int .u64 (c 5), .int .i64 s], .int .i64 o, .int .i64 2, .int .i64 4] w fun e w' => e = .returned (.bool (alw o m g o 2 4)) ∧ Below w.heap.size w w' := by
  go_enter Try.func41, Try.ntmps41
  go_wp2_with (refine wpList_load_row (by rfl) 54 (.tmp 4) (by rfl) (w.heap.size) (by rfl) 54 _ (0, 0) _ (heap_alloc_new w _) Try.underlying54 (by rfl) (by kernel_rfl) ?_)
  refine (is_any' o e m g c s _ _).mono ?_
  rintro e' w1 ⟨rfl, hb1⟩
  have hc1 : w1.cell? ⟨w.heap.size, 11, none⟩ = some (.bool (g 3)) := by rw [hb1.cell (by simp)]; go_simp
  have HB := Lib.hid hb1
  clear hb1
  go_wp2_with fail
  go_ret
  exact ⟨ret_bo (by simp [alw, hm]), ((Below.refl _ _).alloc (Nat.le_refl _) _).trans (HB.out.mono (by simp))⟩
set_option maxRecDepth 100000 in
set_option maxHeartbeats 1600000 in
theorem alw2_4false (o e : Int) (m g : Nat → Bool) (c : Nat → Int) (s : Int) (w : World) (hm : isM m 4 = false) : Calls Try.prog 41 #[.agg #[.int .i64 o, .int .i64 e, .bool (m 0), .bool (m 1), .bool (m 2), .bool (m 3), .bool (m 4), .bool (m 5), .bool (g 0), .bool (g 1), .bool (g 2), .bool (g 3), .bool (g 4), .bool (g 5), .int .u64 (c 0), .int .u64 (c 1), .int .u64 (c 2), .int .u64 (c 3), .int .u64 (c 4), .int .u64 (c 5), .int .i64 s], .int .i64 o, .int .i64 2, .int .i64 4] w fun e w' => e = .returned (.bool (alw o m g o 2 4)) ∧ Below w.heap.size w w' := by
  go_enter Try.func41, Try.ntmps41
  go_wp2_with (refine wpList_load_row (by rfl) 54 (.tmp 4) (by rfl) (w.heap.size) (by rfl) 54 _ (0, 0) _ (heap_alloc_new w _) Try.underlying54 (by rfl) (by kernel_rfl) ?_)
  refine (is_any' o e m g c s _ _).mono ?_
  rintro e' w1 ⟨rfl, hb1⟩
  have hc1 : w1.cell? ⟨w.heap.size, 11, none⟩ = some (.bool (g 3)) := by rw [hb1.cell (by simp)]; go_simp
  have HB := Lib.hid hb1
  clear hb1
  go_wp2_with fail
  go_ret
  exact ⟨ret_bo (by simp [alw, hm]), ((Below.refl _ _).alloc (Nat.le_refl _) _).trans (HB.out.mono (by simp))⟩
set_option maxRecDepth 100000 in
set_option maxHeartbeats 1600000 in
theorem alw2_5true (o e : Int) (m g : Nat → Bool) (c : Nat → Int) (s : Int) (w : World) (hm : isM m 5 = true) : Calls Try.prog 41 #[.agg #[.int .i64 o, .int .i64 e, .bool (m 0), .bool (m 1), .bool (m 2), .bool (m 3), .bool (m 4), .bool (m 5), .bool (g 0), .bool (g 1), .bool (g 2), .bool (g 3), .bool (g 4), .bool (g 5), .int .u64 (c 0), .int .u64 (c 1), .int .u64 (c 2), .int .u64 (c 3), .int .u64 (c 4), .int .u64 (c 5), .int .i64 s], .int .i64 o, .int .i64 2, .int .i64 5] w fun e w' => e = .returned (.bool (alw o m g o 2 5)) ∧ Below w.heap.size w w' := by
  go_enter Try.func41, Try.ntmps41
  go_wp2_with (refine wpList_load_row (by rfl) 54 (.tmp 4) (by rfl) (w.heap.size) (by rfl) 54 _ (0, 0) _ (heap_alloc_new w _) Try.underlying54 (by rfl) (by kernel_rfl) ?_)
  refine (is_any' o e m g c s _ _).mono ?_
  rintro e' w1 ⟨rfl, hb1⟩
  have hc1 : w1.cell? ⟨w.heap.size, 12, none⟩ = some (.bool (g 4)) := by rw [hb1.cell (by simp)]; go_simp
  have HB := Lib.hid hb1
  clear hb1
  go_wp2_with fail
  go_ret
  exact ⟨ret_bo (by simp [alw, hm]), ((Below.refl _ _).alloc (Nat.le_refl _) _).trans (HB.out.mono (by simp))⟩
set_option maxRecDepth 100000 in
set_option maxHeartbeats 1600000 in
theorem alw2_5false (o e : Int) (m g : Nat → Bool) (c : Nat → Int) (s : Int) (w : World) (hm : isM m 5 = false) : Calls Try.prog 41 #[.agg #[.int .i64 o, .int .i64 e, .bool (m 0), .bool (m 1), .bool (m 2), .bool (m 3), .bool (m 4), .bool (m 5), .bool (g 0), .bool (g 1), .bool (g 2), .bool (g 3), .bool (g 4), .bool (g 5), .int .u64 (c 0), .int .u64 (c 1), .int .u64 (c 2), .int .u64 (c 3), .int .u64 (c 4), .int .u64 (c 5), .int .i64 s], .int .i64 o, .int .i64 2, .int .i64 5] w fun e w' => e = .returned (.bool (alw o m g o 2 5)) ∧ Below w.heap.size w w' := by
  go_enter Try.func41, Try.ntmps41
  go_wp2_with (refine wpList_load_row (by rfl) 54 (.tmp 4) (by rfl) (w.heap.size) (by rfl) 54 _ (0, 0) _ (heap_alloc_new w _) Try.underlying54 (by rfl) (by kernel_rfl) ?_)
  refine (is_any' o e m g c s _ _).mono ?_
  rintro e' w1 ⟨rfl, hb1⟩
  have hc1 : w1.cell? ⟨w.heap.size, 12, none⟩ = some (.bool (g 4)) := by rw [hb1.cell (by simp)]; go_simp
  have HB := Lib.hid hb1
  clear hb1
  go_wp2_with fail
  go_ret
  exact ⟨ret_bo (by simp [alw, hm]), ((Below.refl _ _).alloc (Nat.le_refl _) _).trans (HB.out.mono (by simp))⟩
set_option maxRecDepth 100000 in
set_option maxHeartbeats 1600000 in
theorem alw2_6true (o e : Int) (m g : Nat → Bool) (c : Nat → Int) (s : Int) (w : World) (hm : isM m 6 = true) : Calls Try.prog 41 #[.agg #[.int .i64 o, .int .i64 e, .bool (m 0), .bool (m 1), .bool (m 2), .bool (m 3), .bool (m 4), .bool (m 5), .bool (g 0), .bool (g 1), .bool (g 2), .bool (g 3), .bool (g 4), .bool (g 5), .int .u64 (c 0), .int .u64 (c 1), .int .u64 (c 2), .int .u64 (c 3), .int .u64 (c 4), .int .u64 (c 5), .int .i64 s], .int .i64 o, .int .i64 2, .int .i64 6] w fun e w' => e = .returned (.bool (alw o m g o 2 6)) ∧ Below w.heap.size w w' := by
  go_enter Try.func41, Try.ntmps41
  go_wp2_with (refine wpList_load_row (by rfl) 54 (.tmp 4) (by rfl) (w.heap.size) (by rfl) 54 _ (0, 0) _ (heap_alloc_new w _) Try.underlying54 (by rfl) (by kernel_rfl) ?_)
  refine (is_any' o e m g c s _ _).mono ?_
  rintro e' w1 ⟨rfl, hb1⟩
  have hc1 : w1.cell? ⟨w.heap.size, 13, none⟩ = some (.bool (g 5)) := by rw [hb1.cell (by simp)]; go_simp
  have HB := Lib.hid hb1
  clear hb1
  go_wp2_with fail
  go_ret
  exact ⟨ret_bo (by simp [alw, hm]), ((Below.refl _ _).alloc (Nat.le_refl _) _).trans (HB.out.mono (by simp))⟩
set_option maxRecDepth 100000 in
set_option maxHeartbeats 1600000 in
theorem alw2_6false (o e : Int) (m g : Nat → Bool) (c : Nat → Int) (s : Int) (w : World) (hm : isM m 6 = false) : Calls Try.prog 41 #[.agg #[.int .i64 o, .int .i64 e, .bool (m 0), .bool (m 1), .bool (m 2), .bool (m 3), .bool (m 4), .bool (m 5), .bool (g 0), .bool (g 1), .bool (g 2), .bool (g 3), .bool (g 4), .bool (g 5), .int .u64 (c 0), .int .u64 (c 1), .int .u64 (c 2), .int .u64 (c 3), .int .u64 (c 4), .int .u64 (c 5), .int .i64 s], .int .i64 o, .int .i64 2, .int .i64 6] w fun e w' => e = .returned (.bool (alw o m g o 2 6)) ∧ Below w.heap.size w w' := by
  go_enter Try.func41, Try.ntmps41
  go_wp2_with (refine wpList_load_row (by rfl) 54 (.tmp 4) (by rfl) (w.heap.size) (by rfl) 54 _ (0, 0) _ (heap_alloc_new w _) Try.underlying54 (by rfl) (by kernel_rfl) ?_)
  refine (is_any' o e m g c s _ _).mono ?_
  rintro e' w1 ⟨rfl, hb1⟩
  have hc1 : w1.cell? ⟨w.heap.size, 13, none⟩ = some (.bool (g 5)) := by rw [hb1.cell (by simp)]; go_simp
  have HB := Lib.hid hb1
  clear hb1
  go_wp2_with fail
  go_ret
  exact ⟨ret_bo (by simp [alw, hm]), ((Below.refl _ _).alloc (Nat.le_refl _) _).trans (HB.out.mono (by simp))⟩
set_option maxRecDepth 100000 in
set_option maxHeartbeats 1600000 in
theorem alw3_true (o e : Int) (m g : Nat → Bool) (c : Nat → Int) (s n : Int) (w : World) (hm : isM m n = true) : Calls Try.prog 41 #[.agg #[.int .i64 o, .int .i64 e, .bool (m 0), .bool (m 1), .bool (m 2), .bool (m 3), .bool (m 4), .bool (m 5), .bool (g 0), .bool (g 1), .bool (g 2), .bool (g 3), .bool (g 4), .bool (g 5), .int .u64 (c 0), .int .u64 (c 1), .int .u64 (c 2), .int .u64 (c 3), .int .u64 (c 4), .int .u64 (c 5), .int .i64 s], .int .i64 o, .int .i64 3, .int .i64 n] w fun e w' => e = .returned (.bool (alw o m g o 3 n)) ∧ Below w.heap.size w w' := by
  go_enter Try.func41, Try.ntmps41
  go_wp2_with (refine wpList_load_row (by rfl) 54 (.tmp 4) (by rfl) (w.heap.size) (by rfl) 54 _ (0, 0) _ (heap_alloc_new w _) Try.underlying54 (by rfl) (by kernel_rfl) ?_)
  refine (is_any' o e m g c s _ _).mono ?_
  rintro e' w1 ⟨rfl, hb1⟩
  have hc1 : w1.cell? ⟨w.heap.size, 0, none⟩ = some (.int .i64 o) := by rw [hb1.cell (by simp)]; go_simp
  have HB := Lib.hid hb1
  clear hb1
  go_wp2_with fail
  go_ret
  exact ⟨ret_bo (by simp [alw, hm]), ((Below.refl _ _).alloc (Nat.le_refl _) _).trans (HB.out.mono (by simp))⟩
set_option maxRecDepth 100000 in
set_option maxHeartbeats 1600000 in
theorem alw3_false (o e : Int) (m g : Nat → Bool) (c : Nat → Int) (s n : Int) (w : World) (hm : isM m n = false) : Calls Try.prog 41 #[.agg #[.int .i64 o, .int .i64 e, .bool (m 0), .bool (m 1), .bool (m 2), .bool (m 3), .bool (m 4), .bool (m 5), .bool (g 0), .bool (g 1), .bool (g 2), .bool (g 3), .bool (g 4), .bool (g 5), .int .u64 (c 0), .int .u64 (c 1), .int .u64 (c 2), .int .u64 (c 3), .int .u64 (c 4), .int .u64 (c 5), .int .i64 s], .int .i64 o, .int .i64 3, .int .i64 n] w fun e w' => e = .returned (.bool (alw o m g o 3 n)) ∧ Below w.heap.size w w' := by
  go_enter Try.func41, Try.ntmps41
  go_wp2_with (refine wpList_load_row (by rfl) 54 (.tmp 4) (by rfl) (w.heap.size) (by rfl) 54 _ (0, 0) _ (heap_alloc_new w _) Try.underlying54 (by rfl) (by kernel_rfl) ?_)
  refine (is_any' o e m g c s _ _).mono ?_
  rintro e' w1 ⟨rfl, hb1⟩
  have hc1 : w1.cell? ⟨w.heap.size, 0, none⟩ = some (.int .i64 o) := by rw [hb1.cell (by simp)]; go_simp
  have HB := Lib.hid hb1
  clear hb1
  go_wp2_with fail
  go_ret
  exact ⟨ret_bo (by simp [alw, hm]), ((Below.refl _ _).alloc (Nat.le_refl _) _).trans (HB.out.mono (by simp))⟩
set_option maxRecDepth 100000 in
set_option maxHeartbeats 1600000 in
theorem alw5_true (o e : Int) (m g : Nat → Bool) (c : Nat → Int) (s n : Int) (w : World) (hm : isM m n = true) : Calls Try.prog 41 #[.agg #[.int .i64 o, .int .i64 e, .bool (m 0), .bool (m 1), .bool (m 2), .bool (m 3), .bool (m 4), .bool (m 5), .bool (g 0), .bool (g 1), .bool (g 2), .bool (g 3), .bool (g 4), .bool (g 5), .int .u64 (c 0), .int .u64 (c 1), .int .u64 (c 2), .int .u64 (c 3), .int .u64 (c 4), .int .u64 (c 5), .int .i64 s], .int .i64 o, .int .i64 5, .int .i64 n] w fun e w' => e = .returned (.bool (alw o m g o 5 n)) ∧ Below w.heap.size w w' := by
  go_enter Try.func41, Try.ntmps41
  go_wp2_with (refine wpList_load_row (by rfl) 54 (.tmp 4) (by rfl) (w.heap.size) (by rfl) 54 _ (0, 0) _ (heap_alloc_new w _) Try.underlying54 (by rfl) (by kernel_rfl) ?_)
  refine (is_any' o e m g c s _ _).mono ?_
  rintro e' w1 ⟨rfl, hb1⟩
  have hc1 : w1.cell? ⟨w.heap.size, 0, none⟩ = some (.int .i64 o) := by rw [hb1.cell (by simp)]; go_simp
  have HB := Lib.hid hb1
  clear hb1
  go_wp2_with fail
  go_ret
  exact ⟨ret_bo (by simp [alw, hm]), ((Below.refl _ _).alloc (Nat.le_refl _) _).trans (HB.out.mono (by simp))⟩
set_option maxRecDepth 100000 in
set_option maxHeartbeats 1600000 in
theorem alw5_false (o e : Int) (m g : Nat → Bool) (c : Nat → Int) (s n : Int) (w : World) (hm : isM m n = false) : Calls Try.prog 41 #[.agg #[.int .i64 o, .int .i64 e, .bool (m 0), .bool (m 1), .bool (m 2), .bool (m 3), .bool (m 4), .bool (m 5), .bool (g 0), .bool (g 1), .bool (g 2), .bool (g 3), .bool (g 4), .bool (g 5), .int .u64 (c 0), .int .u64 (c 1), .int .u64 (c 2), .int .u64 (c 3), .int .u64 (c 4), .int .u64 (c 5), .int .i64 s], .int .i64 o, .int .i64 5, .int .i64 n] w fun e w' => e = .returned (.bool (alw o m g o 5 n)) ∧ Below w.heap.size w w' := by
  go_enter Try.func41, Try.ntmps41
  go_wp2_with (refine wpList_load_row (by rfl) 54 (.tmp 4) (by rfl) (w.heap.size) (by rfl) 54 _ (0, 0) _ (heap_alloc_new w _) Try.underlying54 (by rfl) (by kernel_rfl) ?_)
  refine (is_any' o e m g c s _ _).mono ?_
  rintro e' w1 ⟨rfl, hb1⟩
  have hc1 : w1.cell? ⟨w.heap.size, 0, none⟩ = some (.int .i64 o) := by rw [hb1.cell (by simp)]; go_simp
  have HB := Lib.hid hb1
  clear hb1
  go_wp2_with fail
  go_ret
  exact ⟨ret_bo (by simp [alw, hm]), ((Below.refl _ _).alloc (Nat.le_refl _) _).trans (HB.out.mono (by simp))⟩
set_option maxRecDepth 100000 in
set_option maxHeartbeats 1600000 in
theorem alw_any (o e : Int) (m g : Nat → Bool) (c : Nat → Int) (s : Int) (a b n : Int) (w : World) (h : say a b n = true) : Calls Try.prog 41 #[.agg #[.int .i64 o, .int .i64 e, .bool (m 0), .bool (m 1), .bool (m 2), .bool (m 3), .bool (m 4), .bool (m 5), .bool (g 0), .bool (g 1), .bool (g 2), .bool (g 3), .bool (g 4), .bool (g 5), .int .u64 (c 0), .int .u64 (c 1), .int .u64 (c 2), .int .u64 (c 3), .int .u64 (c 4), .int .u64 (c 5), .int .i64 s], .int .i64 a, .int .i64 b, .int .i64 n] w fun e w' => e = .returned (.bool (alw o m g a b n)) ∧ Below w.heap.size w w' := by
  have hs := h
  simp only [say, Bool.and_eq_true, decide_eq_true_eq] at hs
  obtain ⟨⟨⟨hia, hb0⟩, hb5⟩, hn⟩ := hs
  by_cases h1 : b = 1
  · subst h1
    go_enter Try.func41, Try.ntmps41
    go_wp2
    go_ret
    exact ⟨ret_bo (by simp [alw]), (Below.refl _ _).alloc (Nat.le_refl _) _⟩
  · by_cases h2 : a = o
    · subst h2
      rcases (by omega : b = 2 ∨ b = 3 ∨ b = 4 ∨ b = 5) with rfl | rfl | rfl | rfl
      · have hi : ing n = true := by simpa using hn
        rcases six_cases (ing_iff.1 hi) with rfl | rfl | rfl | rfl | rfl | rfl
        · cases hm : isM m 1
          · exact alw2_1false a e m g c s w hm
          · exact alw2_1true a e m g c s w hm
        · cases hm : isM m 2
          · exact alw2_2false a e m g c s w hm
          · exact alw2_2true a e m g c s w hm
        · cases hm : isM m 3
          · exact alw2_3false a e m g c s w hm
          · exact alw2_3true a e m g c s w hm
        · cases hm : isM m 4
          · exact alw2_4false a e m g c s w hm
          · exact alw2_4true a e m g c s w hm
        · cases hm : isM m 5
          · exact alw2_5false a e m g c s w hm
          · exact alw2_5true a e m g c s w hm
        · cases hm : isM m 6
          · exact alw2_6false a e m g c s w hm
          · exact alw2_6true a e m g c s w hm
      · cases hm : isM m n
        · exact alw3_false a e m g c s n w hm
        · exact alw3_true a e m g c s n w hm
      · go_enter Try.func41, Try.ntmps41
        go_wp2
        go_ret
        exact ⟨ret_bo (by simp [alw]), (Below.refl _ _).alloc (Nat.le_refl _) _⟩
      · cases hm : isM m n
        · exact alw5_false a e m g c s n w hm
        · exact alw5_true a e m g c s n w hm
    · have h3 : (a != o) = true := by simpa using h2
      go_enter Try.func41, Try.ntmps41
      go_wp2
      go_ret
      exact ⟨ret_bo (by simp [alw, h1, h2]), (Below.refl _ _).alloc (Nat.le_refl _) _⟩
end Go.Proofs.Ytmmaiohnfphcjaa
