/- Contracts of package group. -/
import Derived.Test.YtmmaiohnfphcjaaGrp3
import Derived.Test.YtmmaiohnfphcjaaU
import Derived.Test.YtmmaiohnfphcjaaEq
import Derived.RegionTactic
import Derived.BigRegion
import Derived.Deep.QuietTactic
import Derived.BigQuiet
import Derived.WalkSmall
import Derived.Great.Walk
import Derived.WalkLawsBesides
namespace Go.Proofs.Ytmmaiohnfphcjaa
open Go Go.ChangeShapes Go.WideShapes Go.ChangeAt Go.RowKit
set_option linter.unusedVariables false

/-! What the reference asks. -/
set_option maxRecDepth 100000 in
set_option maxHeartbeats 1600000 in
theorem rin_any (m : Nat → Bool) (n : Int) (w : World) : Calls Try.prog 44 #[.agg #[.bool (m 0), .bool (m 1), .bool (m 2), .bool (m 3), .bool (m 4), .bool (m 5)], .int .i64 n] w fun e w' => e = .returned (.bool (isM m n)) ∧ Below w.heap.size w w' := by
  by_cases h1 : 1 ≤ n
  · by_cases h2 : n ≤ 6
    · have hi := ing_yes ⟨h1, h2⟩
      rcases six_cases ⟨h1, h2⟩ with rfl | rfl | rfl | rfl | rfl | rfl
      all_goals
        go_enter Try.func44, Try.ntmps44
        go_wp2
        go_ret
        exact ⟨ret_bo (by simp [isM, hi]), (Below.refl _ _).alloc (Nat.le_refl _) _⟩
    · have hi := ing_no (n := n) (by omega)
      have d1 : decide (1 ≤ n) = true := by simpa using h1
      have d2 : decide (n ≤ 6) = false := by simpa using h2
      go_enter Try.func44, Try.ntmps44
      go_wp2
      go_ret
      exact ⟨ret_bo (by simp [isM, hi]), (Below.refl _ _).alloc (Nat.le_refl _) _⟩
  · have hi := ing_no (n := n) (by omega)
    have d1 : decide (1 ≤ n) = false := by simpa using h1
    go_enter Try.func44, Try.ntmps44
    go_wp2
    go_ret
    exact ⟨ret_bo (by simp [isM, hi]), (Below.refl _ _).alloc (Nat.le_refl _) _⟩

set_option maxRecDepth 100000 in
set_option maxHeartbeats 1600000 in
theorem wrong_any (a b n : Int) (w : World) : Calls Try.prog 43 #[.int .i64 a, .int .i64 b, .int .i64 n] w fun e w' => e = .returned (.bool (!say a b n)) ∧ w = w' := by
  rcases (by omega : a < 1 ∨ 6 < a ∨ (1 ≤ a ∧ a ≤ 6)) with ha | ha | ha
  · have fa0 : decide (a < 1) = true := by simp; omega
    rcases (by omega : b = 1 ∨ b = 2 ∨ b = 3 ∨ b = 4 ∨ b = 5 ∨ b < 1 ∨ 5 < b) with rfl | rfl | rfl | rfl | rfl | hb | hb
    · have HR := Lib.hid (show (!say a 1 n) = true from (by simp [say, ing]; try omega))
      go_enter Try.func43, Try.ntmps43
      go_wp2
      go_ret
      exact ⟨ret_bo HR.out, rfl⟩
    · have HR := Lib.hid (show (!say a 2 n) = true from (by simp [say, ing]; try omega))
      go_enter Try.func43, Try.ntmps43
      go_wp2
      go_ret
      exact ⟨ret_bo HR.out, rfl⟩
    · have HR := Lib.hid (show (!say a 3 n) = true from (by simp [say, ing]; try omega))
      go_enter Try.func43, Try.ntmps43
      go_wp2
      go_ret
      exact ⟨ret_bo HR.out, rfl⟩
    · have HR := Lib.hid (show (!say a 4 n) = true from (by simp [say, ing]; try omega))
      go_enter Try.func43, Try.ntmps43
      go_wp2
      go_ret
      exact ⟨ret_bo HR.out, rfl⟩
    · have HR := Lib.hid (show (!say a 5 n) = true from (by simp [say, ing]; try omega))
      go_enter Try.func43, Try.ntmps43
      go_wp2
      go_ret
      exact ⟨ret_bo HR.out, rfl⟩
    · have HR := Lib.hid (show (!say a b n) = true from (by simp [say, ing]; try omega))
      have fb0 : decide (b < 1) = true := by simp; omega
      have fb1 : (b == 2) = false := by simp; omega
      have fb2 : (b == 3) = false := by simp; omega
      have fb3 : (b == 5) = false := by simp; omega
      go_enter Try.func43, Try.ntmps43
      go_wp2
      go_ret
      exact ⟨ret_bo HR.out, rfl⟩
    · have HR := Lib.hid (show (!say a b n) = true from (by simp [say, ing]; try omega))
      have fb0 : decide (b < 1) = false := by simp; omega
      have fb1 : decide (5 < b) = true := by simp; omega
      have fb2 : (b == 2) = false := by simp; omega
      have fb3 : (b == 3) = false := by simp; omega
      have fb4 : (b == 5) = false := by simp; omega
      go_enter Try.func43, Try.ntmps43
      go_wp2
      go_ret
      exact ⟨ret_bo HR.out, rfl⟩
  · have fa0 : decide (a < 1) = false := by simp; omega
    have fa1 : decide (6 < a) = true := by simp; omega
    rcases (by omega : b = 1 ∨ b = 2 ∨ b = 3 ∨ b = 4 ∨ b = 5 ∨ b < 1 ∨ 5 < b) with rfl | rfl | rfl | rfl | rfl | hb | hb
    · have HR := Lib.hid (show (!say a 1 n) = true from (by simp [say, ing]; try omega))
      go_enter Try.func43, Try.ntmps43
      go_wp2
      go_ret
      exact ⟨ret_bo HR.out, rfl⟩
    · have HR := Lib.hid (show (!say a 2 n) = true from (by simp [say, ing]; try omega))
      go_enter Try.func43, Try.ntmps43
      go_wp2
      go_ret
      exact ⟨ret_bo HR.out, rfl⟩
    · have HR := Lib.hid (show (!say a 3 n) = true from (by simp [say, ing]; try omega))
      go_enter Try.func43, Try.ntmps43
      go_wp2
      go_ret
      exact ⟨ret_bo HR.out, rfl⟩
    · have HR := Lib.hid (show (!say a 4 n) = true from (by simp [say, ing]; try omega))
      go_enter Try.func43, Try.ntmps43
      go_wp2
      go_ret
      exact ⟨ret_bo HR.out, rfl⟩
    · have HR := Lib.hid (show (!say a 5 n) = true from (by simp [say, ing]; try omega))
      go_enter Try.func43, Try.ntmps43
      go_wp2
      go_ret
      exact ⟨ret_bo HR.out, rfl⟩
    · have HR := Lib.hid (show (!say a b n) = true from (by simp [say, ing]; try omega))
      have fb0 : decide (b < 1) = true := by simp; omega
      have fb1 : (b == 2) = false := by simp; omega
      have fb2 : (b == 3) = false := by simp; omega
      have fb3 : (b == 5) = false := by simp; omega
      go_enter Try.func43, Try.ntmps43
      go_wp2
      go_ret
      exact ⟨ret_bo HR.out, rfl⟩
    · have HR := Lib.hid (show (!say a b n) = true from (by simp [say, ing]; try omega))
      have fb0 : decide (b < 1) = false := by simp; omega
      have fb1 : decide (5 < b) = true := by simp; omega
      have fb2 : (b == 2) = false := by simp; omega
      have fb3 : (b == 3) = false := by simp; omega
      have fb4 : (b == 5) = false := by simp; omega
      go_enter Try.func43, Try.ntmps43
      go_wp2
      go_ret
      exact ⟨ret_bo HR.out, rfl⟩
  · have fa0 : decide (a < 1) = false := by simp; omega
    have fa1 : decide (6 < a) = false := by simp; omega
    rcases (by omega : b = 1 ∨ b = 2 ∨ b = 3 ∨ b = 4 ∨ b = 5 ∨ b < 1 ∨ 5 < b) with rfl | rfl | rfl | rfl | rfl | hb | hb
    · by_cases hn : n = 0
      · have HR := Lib.hid (show (!say a 1 n) = false from (by simp [say, ing]; try omega))
        have fn0 : (n != 0) = false := by simpa using hn
        go_enter Try.func43, Try.ntmps43
        go_wp2
        go_ret
        exact ⟨ret_bo HR.out, rfl⟩
      · have HR := Lib.hid (show (!say a 1 n) = true from (by simp [say, ing]; try omega))
        have fn0 : (n != 0) = true := by simpa using hn
        go_enter Try.func43, Try.ntmps43
        go_wp2
        go_ret
        exact ⟨ret_bo HR.out, rfl⟩
    · rcases (by omega : n < 1 ∨ 6 < n ∨ (1 ≤ n ∧ n ≤ 6)) with hn | hn | hn
      · have HR := Lib.hid (show (!say a 2 n) = true from (by simp [say, ing]; try omega))
        have fn0 : decide (n < 1) = true := by simp; omega
        go_enter Try.func43, Try.ntmps43
        go_wp2
        go_ret
        exact ⟨ret_bo HR.out, rfl⟩
      · have HR := Lib.hid (show (!say a 2 n) = true from (by simp [say, ing]; try omega))
        have fn0 : decide (n < 1) = false := by simp; omega
        have fn1 : decide (6 < n) = true := by simp; omega
        go_enter Try.func43, Try.ntmps43
        go_wp2
        go_ret
        exact ⟨ret_bo HR.out, rfl⟩
      · have HR := Lib.hid (show (!say a 2 n) = false from (by simp [say, ing]; try omega))
        have fn0 : decide (n < 1) = false := by simp; omega
        have fn1 : decide (6 < n) = false := by simp; omega
        go_enter Try.func43, Try.ntmps43
        go_wp2
        go_ret
        exact ⟨ret_bo HR.out, rfl⟩
    · rcases (by omega : n < 1 ∨ 6 < n ∨ (1 ≤ n ∧ n ≤ 6)) with hn | hn | hn
      · have HR := Lib.hid (show (!say a 3 n) = true from (by simp [say, ing]; try omega))
        have fn0 : decide (n < 1) = true := by simp; omega
        go_enter Try.func43, Try.ntmps43
        go_wp2
        go_ret
        exact ⟨ret_bo HR.out, rfl⟩
      · have HR := Lib.hid (show (!say a 3 n) = true from (by simp [say, ing]; try omega))
        have fn0 : decide (n < 1) = false := by simp; omega
        have fn1 : decide (6 < n) = true := by simp; omega
        go_enter Try.func43, Try.ntmps43
        go_wp2
        go_ret
        exact ⟨ret_bo HR.out, rfl⟩
      · have HR := Lib.hid (show (!say a 3 n) = false from (by simp [say, ing]; try omega))
        have fn0 : decide (n < 1) = false := by simp; omega
        have fn1 : decide (6 < n) = false := by simp; omega
        go_enter Try.func43, Try.ntmps43
        go_wp2
        go_ret
        exact ⟨ret_bo HR.out, rfl⟩
    · by_cases hn : n = 0
      · have HR := Lib.hid (show (!say a 4 n) = false from (by simp [say, ing]; try omega))
        have fn0 : (n != 0) = false := by simpa using hn
        go_enter Try.func43, Try.ntmps43
        go_wp2
        go_ret
        exact ⟨ret_bo HR.out, rfl⟩
      · have HR := Lib.hid (show (!say a 4 n) = true from (by simp [say, ing]; try omega))
        have fn0 : (n != 0) = true := by simpa using hn
        go_enter Try.func43, Try.ntmps43
        go_wp2
        go_ret
        exact ⟨ret_bo HR.out, rfl⟩
    · rcases (by omega : n < 1 ∨ 6 < n ∨ (1 ≤ n ∧ n ≤ 6)) with hn | hn | hn
      · have HR := Lib.hid (show (!say a 5 n) = true from (by simp [say, ing]; try omega))
        have fn0 : decide (n < 1) = true := by simp; omega
        go_enter Try.func43, Try.ntmps43
        go_wp2
        go_ret
        exact ⟨ret_bo HR.out, rfl⟩
      · have HR := Lib.hid (show (!say a 5 n) = true from (by simp [say, ing]; try omega))
        have fn0 : decide (n < 1) = false := by simp; omega
        have fn1 : decide (6 < n) = true := by simp; omega
        go_enter Try.func43, Try.ntmps43
        go_wp2
        go_ret
        exact ⟨ret_bo HR.out, rfl⟩
      · have HR := Lib.hid (show (!say a 5 n) = false from (by simp [say, ing]; try omega))
        have fn0 : decide (n < 1) = false := by simp; omega
        have fn1 : decide (6 < n) = false := by simp; omega
        go_enter Try.func43, Try.ntmps43
        go_wp2
        go_ret
        exact ⟨ret_bo HR.out, rfl⟩
    · have HR := Lib.hid (show (!say a b n) = true from (by simp [say, ing]; try omega))
      have fb0 : decide (b < 1) = true := by simp; omega
      have fb1 : (b == 2) = false := by simp; omega
      have fb2 : (b == 3) = false := by simp; omega
      have fb3 : (b == 5) = false := by simp; omega
      go_enter Try.func43, Try.ntmps43
      go_wp2
      go_ret
      exact ⟨ret_bo HR.out, rfl⟩
    · have HR := Lib.hid (show (!say a b n) = true from (by simp [say, ing]; try omega))
      have fb0 : decide (b < 1) = false := by simp; omega
      have fb1 : decide (5 < b) = true := by simp; omega
      have fb2 : (b == 2) = false := by simp; omega
      have fb3 : (b == 3) = false := by simp; omega
      have fb4 : (b == 5) = false := by simp; omega
      go_enter Try.func43, Try.ntmps43
      go_wp2
      go_ret
      exact ⟨ret_bo HR.out, rfl⟩

theorem hid_not {b c : Bool} (h : b = c) : (!b) = !c := by rw [h]

set_option maxRecDepth 100000 in
set_option maxHeartbeats 1600000 in
theorem rmay_wrong (G : Gp) (a b n : Int) (w : World) (hs : say a b n = false) : Calls Try.prog 34 #[.agg #[.int .i64 G.o, .int .i64 G.e, .bool (G.m 0), .bool (G.m 1), .bool (G.m 2), .bool (G.m 3), .bool (G.m 4), .bool (G.m 5), .bool (G.g 0), .bool (G.g 1), .bool (G.g 2), .bool (G.g 3), .bool (G.g 4), .bool (G.g 5), .int .u64 (G.c 0), .int .u64 (G.c 1), .int .u64 (G.c 2), .int .u64 (G.c 3), .int .u64 (G.c 4), .int .u64 (G.c 5), .int .i64 G.s], .int .i64 a, .int .i64 b, .int .i64 n] w fun e' w' => e' = .returned (.int .i64 (mayF G a b n)) ∧ Below w.heap.size w w' := by
  have HE := Lib.hid (show mayF G a b n = 1 from by simp [mayF, hs])
  have HSAY := Lib.hid (show (!say a b n) = true from by rw [hs]; rfl)
  go_enter Try.func34, Try.ntmps34
  go_wp2_with (go_at_call 43; refine (wrong_any _ _ _ _).mono ?_; rintro e w' ⟨he, rfl⟩; rw [HSAY.out] at he; subst he)
  go_ret
  exact ⟨ret_i HE.out, (Below.refl _ _).alloc (Nat.le_refl _) _⟩

set_option maxRecDepth 100000 in
set_option maxHeartbeats 1600000 in
theorem rm1_bad (G : Gp) (a : Int) (w : World) (hs : say a 1 0 = true) (h1 : (G.o != 0) = true) : Calls Try.prog 34 #[.agg #[.int .i64 G.o, .int .i64 G.e, .bool (G.m 0), .bool (G.m 1), .bool (G.m 2), .bool (G.m 3), .bool (G.m 4), .bool (G.m 5), .bool (G.g 0), .bool (G.g 1), .bool (G.g 2), .bool (G.g 3), .bool (G.g 4), .bool (G.g 5), .int .u64 (G.c 0), .int .u64 (G.c 1), .int .u64 (G.c 2), .int .u64 (G.c 3), .int .u64 (G.c 4), .int .u64 (G.c 5), .int .i64 G.s], .int .i64 a, .int .i64 1, .int .i64 0] w fun e' w' => e' = .returned (.int .i64 12) ∧ Below w.heap.size w w' := by
  have HSAY := Lib.hid (show (!say a 1 0) = false from by rw [hs]; rfl)
  go_enter Try.func34, Try.ntmps34
  go_wp2_with (first | (go_at_call 43; refine (wrong_any _ _ _ _).mono ?_; rintro e w' ⟨he, rfl⟩; rw [HSAY.out] at he; subst he))
  go_ret
  exact ⟨rfl, (Below.refl _ _).alloc (Nat.le_refl _) _⟩

set_option maxRecDepth 100000 in
set_option maxHeartbeats 1600000 in
theorem rm1_full (G : Gp) (a : Int) (w : World) (hs : say a 1 0 = true) (h1 : (G.o != 0) = false) (h2 : decide (255 ≤ G.e) = true) : Calls Try.prog 34 #[.agg #[.int .i64 G.o, .int .i64 G.e, .bool (G.m 0), .bool (G.m 1), .bool (G.m 2), .bool (G.m 3), .bool (G.m 4), .bool (G.m 5), .bool (G.g 0), .bool (G.g 1), .bool (G.g 2), .bool (G.g 3), .bool (G.g 4), .bool (G.g 5), .int .u64 (G.c 0), .int .u64 (G.c 1), .int .u64 (G.c 2), .int .u64 (G.c 3), .int .u64 (G.c 4), .int .u64 (G.c 5), .int .i64 G.s], .int .i64 a, .int .i64 1, .int .i64 0] w fun e' w' => e' = .returned (.int .i64 14) ∧ Below w.heap.size w w' := by
  have HSAY := Lib.hid (show (!say a 1 0) = false from by rw [hs]; rfl)
  go_enter Try.func34, Try.ntmps34
  go_wp2_with (first | (go_at_call 43; refine (wrong_any _ _ _ _).mono ?_; rintro e w' ⟨he, rfl⟩; rw [HSAY.out] at he; subst he))
  go_ret
  exact ⟨rfl, (Below.refl _ _).alloc (Nat.le_refl _) _⟩

set_option maxRecDepth 100000 in
set_option maxHeartbeats 1600000 in
theorem rm1_ok (G : Gp) (a : Int) (w : World) (hs : say a 1 0 = true) (h1 : (G.o != 0) = false) (h2 : decide (255 ≤ G.e) = false) : Calls Try.prog 34 #[.agg #[.int .i64 G.o, .int .i64 G.e, .bool (G.m 0), .bool (G.m 1), .bool (G.m 2), .bool (G.m 3), .bool (G.m 4), .bool (G.m 5), .bool (G.g 0), .bool (G.g 1), .bool (G.g 2), .bool (G.g 3), .bool (G.g 4), .bool (G.g 5), .int .u64 (G.c 0), .int .u64 (G.c 1), .int .u64 (G.c 2), .int .u64 (G.c 3), .int .u64 (G.c 4), .int .u64 (G.c 5), .int .i64 G.s], .int .i64 a, .int .i64 1, .int .i64 0] w fun e' w' => e' = .returned (.int .i64 0) ∧ Below w.heap.size w w' := by
  have HSAY := Lib.hid (show (!say a 1 0) = false from by rw [hs]; rfl)
  go_enter Try.func34, Try.ntmps34
  go_wp2_with (first | (go_at_call 43; refine (wrong_any _ _ _ _).mono ?_; rintro e w' ⟨he, rfl⟩; rw [HSAY.out] at he; subst he))
  go_ret
  exact ⟨rfl, (Below.refl _ _).alloc (Nat.le_refl _) _⟩

set_option maxRecDepth 100000 in
set_option maxHeartbeats 1600000 in
theorem rm4_bad (G : Gp) (a n : Int) (w : World) (hs : say a 4 n = true) (h1 : (G.o != a) = true) : Calls Try.prog 34 #[.agg #[.int .i64 G.o, .int .i64 G.e, .bool (G.m 0), .bool (G.m 1), .bool (G.m 2), .bool (G.m 3), .bool (G.m 4), .bool (G.m 5), .bool (G.g 0), .bool (G.g 1), .bool (G.g 2), .bool (G.g 3), .bool (G.g 4), .bool (G.g 5), .int .u64 (G.c 0), .int .u64 (G.c 1), .int .u64 (G.c 2), .int .u64 (G.c 3), .int .u64 (G.c 4), .int .u64 (G.c 5), .int .i64 G.s], .int .i64 a, .int .i64 4, .int .i64 n] w fun e' w' => e' = .returned (.int .i64 12) ∧ Below w.heap.size w w' := by
  have HSAY := Lib.hid (show (!say a 4 n) = false from by rw [hs]; rfl)
  go_enter Try.func34, Try.ntmps34
  go_wp2_with (first | (go_at_call 43; refine (wrong_any _ _ _ _).mono ?_; rintro e w' ⟨he, rfl⟩; rw [HSAY.out] at he; subst he))
  go_ret
  exact ⟨rfl, (Below.refl _ _).alloc (Nat.le_refl _) _⟩

set_option maxRecDepth 100000 in
set_option maxHeartbeats 1600000 in
theorem rm4_full (G : Gp) (a n : Int) (w : World) (hs : say a 4 n = true) (h1 : (G.o != a) = false) (h2 : decide (255 ≤ G.e) = true) : Calls Try.prog 34 #[.agg #[.int .i64 G.o, .int .i64 G.e, .bool (G.m 0), .bool (G.m 1), .bool (G.m 2), .bool (G.m 3), .bool (G.m 4), .bool (G.m 5), .bool (G.g 0), .bool (G.g 1), .bool (G.g 2), .bool (G.g 3), .bool (G.g 4), .bool (G.g 5), .int .u64 (G.c 0), .int .u64 (G.c 1), .int .u64 (G.c 2), .int .u64 (G.c 3), .int .u64 (G.c 4), .int .u64 (G.c 5), .int .i64 G.s], .int .i64 a, .int .i64 4, .int .i64 n] w fun e' w' => e' = .returned (.int .i64 14) ∧ Below w.heap.size w w' := by
  have HSAY := Lib.hid (show (!say a 4 n) = false from by rw [hs]; rfl)
  go_enter Try.func34, Try.ntmps34
  go_wp2_with (first | (go_at_call 43; refine (wrong_any _ _ _ _).mono ?_; rintro e w' ⟨he, rfl⟩; rw [HSAY.out] at he; subst he))
  go_ret
  exact ⟨rfl, (Below.refl _ _).alloc (Nat.le_refl _) _⟩

set_option maxRecDepth 100000 in
set_option maxHeartbeats 1600000 in
theorem rm4_ok (G : Gp) (a n : Int) (w : World) (hs : say a 4 n = true) (h1 : (G.o != a) = false) (h2 : decide (255 ≤ G.e) = false) : Calls Try.prog 34 #[.agg #[.int .i64 G.o, .int .i64 G.e, .bool (G.m 0), .bool (G.m 1), .bool (G.m 2), .bool (G.m 3), .bool (G.m 4), .bool (G.m 5), .bool (G.g 0), .bool (G.g 1), .bool (G.g 2), .bool (G.g 3), .bool (G.g 4), .bool (G.g 5), .int .u64 (G.c 0), .int .u64 (G.c 1), .int .u64 (G.c 2), .int .u64 (G.c 3), .int .u64 (G.c 4), .int .u64 (G.c 5), .int .i64 G.s], .int .i64 a, .int .i64 4, .int .i64 n] w fun e' w' => e' = .returned (.int .i64 0) ∧ Below w.heap.size w w' := by
  have HSAY := Lib.hid (show (!say a 4 n) = false from by rw [hs]; rfl)
  go_enter Try.func34, Try.ntmps34
  go_wp2_with (first | (go_at_call 43; refine (wrong_any _ _ _ _).mono ?_; rintro e w' ⟨he, rfl⟩; rw [HSAY.out] at he; subst he))
  go_ret
  exact ⟨rfl, (Below.refl _ _).alloc (Nat.le_refl _) _⟩

set_option maxRecDepth 100000 in
set_option maxHeartbeats 1600000 in
theorem rm2_bad (G : Gp) (a n : Int) (w : World) (hs : say a 2 n = true) (h1 : (G.o != a) = true) : Calls Try.prog 34 #[.agg #[.int .i64 G.o, .int .i64 G.e, .bool (G.m 0), .bool (G.m 1), .bool (G.m 2), .bool (G.m 3), .bool (G.m 4), .bool (G.m 5), .bool (G.g 0), .bool (G.g 1), .bool (G.g 2), .bool (G.g 3), .bool (G.g 4), .bool (G.g 5), .int .u64 (G.c 0), .int .u64 (G.c 1), .int .u64 (G.c 2), .int .u64 (G.c 3), .int .u64 (G.c 4), .int .u64 (G.c 5), .int .i64 G.s], .int .i64 a, .int .i64 2, .int .i64 n] w fun e' w' => e' = .returned (.int .i64 12) ∧ Below w.heap.size w w' := by
  have HSAY := Lib.hid (show (!say a 2 n) = false from by rw [hs]; rfl)
  go_enter Try.func34, Try.ntmps34
  go_wp2_with (first | (go_at_call 43; refine (wrong_any _ _ _ _).mono ?_; rintro e w' ⟨he, rfl⟩; rw [HSAY.out] at he; subst he))
  go_ret
  exact ⟨rfl, (Below.refl _ _).alloc (Nat.le_refl _) _⟩

set_option maxRecDepth 100000 in
set_option maxHeartbeats 1600000 in
theorem rm3_bad (G : Gp) (a n : Int) (w : World) (hs : say a 3 n = true) (h1 : (G.o != a) = true) : Calls Try.prog 34 #[.agg #[.int .i64 G.o, .int .i64 G.e, .bool (G.m 0), .bool (G.m 1), .bool (G.m 2), .bool (G.m 3), .bool (G.m 4), .bool (G.m 5), .bool (G.g 0), .bool (G.g 1), .bool (G.g 2), .bool (G.g 3), .bool (G.g 4), .bool (G.g 5), .int .u64 (G.c 0), .int .u64 (G.c 1), .int .u64 (G.c 2), .int .u64 (G.c 3), .int .u64 (G.c 4), .int .u64 (G.c 5), .int .i64 G.s], .int .i64 a, .int .i64 3, .int .i64 n] w fun e' w' => e' = .returned (.int .i64 12) ∧ Below w.heap.size w w' := by
  have HSAY := Lib.hid (show (!say a 3 n) = false from by rw [hs]; rfl)
  go_enter Try.func34, Try.ntmps34
  go_wp2_with (first | (go_at_call 43; refine (wrong_any _ _ _ _).mono ?_; rintro e w' ⟨he, rfl⟩; rw [HSAY.out] at he; subst he))
  go_ret
  exact ⟨rfl, (Below.refl _ _).alloc (Nat.le_refl _) _⟩

set_option maxRecDepth 100000 in
set_option maxHeartbeats 1600000 in
theorem rm5_bad (G : Gp) (a n : Int) (w : World) (hs : say a 5 n = true) (h1 : (G.o != a) = true) : Calls Try.prog 34 #[.agg #[.int .i64 G.o, .int .i64 G.e, .bool (G.m 0), .bool (G.m 1), .bool (G.m 2), .bool (G.m 3), .bool (G.m 4), .bool (G.m 5), .bool (G.g 0), .bool (G.g 1), .bool (G.g 2), .bool (G.g 3), .bool (G.g 4), .bool (G.g 5), .int .u64 (G.c 0), .int .u64 (G.c 1), .int .u64 (G.c 2), .int .u64 (G.c 3), .int .u64 (G.c 4), .int .u64 (G.c 5), .int .i64 G.s], .int .i64 a, .int .i64 5, .int .i64 n] w fun e' w' => e' = .returned (.int .i64 12) ∧ Below w.heap.size w w' := by
  have HSAY := Lib.hid (show (!say a 5 n) = false from by rw [hs]; rfl)
  go_enter Try.func34, Try.ntmps34
  go_wp2_with (first | (go_at_call 43; refine (wrong_any _ _ _ _).mono ?_; rintro e w' ⟨he, rfl⟩; rw [HSAY.out] at he; subst he))
  go_ret
  exact ⟨rfl, (Below.refl _ _).alloc (Nat.le_refl _) _⟩
end Go.Proofs.Ytmmaiohnfphcjaa
