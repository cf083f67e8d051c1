/- Contracts of package group. -/
import Derived.Test.YtmmaiohnfphcjaaGrp7
import Derived.Test.YtmmaiohnfphcjaaU
import Derived.Test.YtmmaiohnfphcjaaEq
import Derived.RegionTactic
import Derived.BigRegion
import Derived.Deep.QuietTactic
import Derived.BigQuiet
import Derived.WalkSmall
import Derived.Great.Walk
import Derived.WalkLawsBesides
namespace Go.Proofs.Ytmmaiohnfphcjaa
open Go Go.ChangeShapes Go.WideShapes Go.ChangeAt Go.RowKit
set_option linter.unusedVariables false

set_option maxRecDepth 100000 in
set_option maxHeartbeats 1600000 in
theorem rm2_mem (G : Gp) (a n : Int) (w : World) (hs : say a 2 n = true) (h1 : (G.o != a) = false) (hm : isM G.m n = true) : Calls Try.prog 34 #[.agg #[.int .i64 G.o, .int .i64 G.e, .bool (G.m 0), .bool (G.m 1), .bool (G.m 2), .bool (G.m 3), .bool (G.m 4), .bool (G.m 5), .bool (G.g 0), .bool (G.g 1), .bool (G.g 2), .bool (G.g 3), .bool (G.g 4), .bool (G.g 5), .int .u64 (G.c 0), .int .u64 (G.c 1), .int .u64 (G.c 2), .int .u64 (G.c 3), .int .u64 (G.c 4), .int .u64 (G.c 5), .int .i64 G.s], .int .i64 a, .int .i64 2, .int .i64 n] w fun e' w' => e' = .returned (.int .i64 12) ∧ Below w.heap.size w w' := by
  have HSAY := Lib.hid (show (!say a 2 n) = false from by rw [hs]; rfl)
  go_enter Try.func34, Try.ntmps34
  go_wp2_with (first | (go_at_call 43; refine (wrong_any _ _ _ _).mono ?_; rintro e w' ⟨he, rfl⟩; rw [HSAY.out] at he; subst he) | (go_at_call 44; with_reducible (refine (rin_any G.m n _).mono ?_); rintro e w1 ⟨he, hb1⟩; rw [hm] at he; subst he; have H1 := Lib.hid ((hb1.block w.heap.size (by simp)).trans (heap_alloc_new w (.cells #[.int .i64 G.o, .int .i64 G.e, .bool (G.m 0), .bool (G.m 1), .bool (G.m 2), .bool (G.m 3), .bool (G.m 4), .bool (G.m 5), .bool (G.g 0), .bool (G.g 1), .bool (G.g 2), .bool (G.g 3), .bool (G.g 4), .bool (G.g 5), .int .u64 (G.c 0), .int .u64 (G.c 1), .int .u64 (G.c 2), .int .u64 (G.c 3), .int .u64 (G.c 4), .int .u64 (G.c 5), .int .i64 G.s] 54))); have HB1 := Lib.hid ((((Below.refl _ _).alloc (Nat.le_refl _) _).trans (hb1.mono (by simp)) : Below w.heap.size w w1)); have hz1 : w.heap.size < w1.heap.size := (by have := hb1.size; simp at this; omega); have z0 : w1.cell? ⟨w.heap.size, 0, none⟩ = some (.int .i64 G.o) := ((cell_blk H1.out).trans rfl); have z1 : w1.cell? ⟨w.heap.size, 1, none⟩ = some (.int .i64 G.e) := ((cell_blk H1.out).trans rfl); have c0 : w1.cell? ⟨w.heap.size, 8, none⟩ = some (.bool (G.g 0)) := ((cell_blk H1.out).trans rfl); have c1 : w1.cell? ⟨w.heap.size, 9, none⟩ = some (.bool (G.g 1)) := ((cell_blk H1.out).trans rfl); have c2 : w1.cell? ⟨w.heap.size, 10, none⟩ = some (.bool (G.g 2)) := ((cell_blk H1.out).trans rfl); have c3 : w1.cell? ⟨w.heap.size, 11, none⟩ = some (.bool (G.g 3)) := ((cell_blk H1.out).trans rfl); have c4 : w1.cell? ⟨w.heap.size, 12, none⟩ = some (.bool (G.g 4)) := ((cell_blk H1.out).trans rfl); have c5 : w1.cell? ⟨w.heap.size, 13, none⟩ = some (.bool (G.g 5)) := ((cell_blk H1.out).trans rfl); clear hb1))
  go_ret
  exact ⟨rfl, HB1.out⟩

set_option maxRecDepth 100000 in
set_option maxHeartbeats 1600000 in
theorem rm2_gone (G : Gp) (a n : Int) (w : World) (hs : say a 2 n = true) (h1 : (G.o != a) = false) (hm : isM G.m n = false) (hg : isM G.g n = true) : Calls Try.prog 34 #[.agg #[.int .i64 G.o, .int .i64 G.e, .bool (G.m 0), .bool (G.m 1), .bool (G.m 2), .bool (G.m 3), .bool (G.m 4), .bool (G.m 5), .bool (G.g 0), .bool (G.g 1), .bool (G.g 2), .bool (G.g 3), .bool (G.g 4), .bool (G.g 5), .int .u64 (G.c 0), .int .u64 (G.c 1), .int .u64 (G.c 2), .int .u64 (G.c 3), .int .u64 (G.c 4), .int .u64 (G.c 5), .int .i64 G.s], .int .i64 a, .int .i64 2, .int .i64 n] w fun e' w' => e' = .returned (.int .i64 12) ∧ Below w.heap.size w w' := by
  have HSAY := Lib.hid (show (!say a 2 n) = false from by rw [hs]; rfl)
  go_enter Try.func34, Try.ntmps34
  go_wp2_with (first | (go_at_call 43; refine (wrong_any _ _ _ _).mono ?_; rintro e w' ⟨he, rfl⟩; rw [HSAY.out] at he; subst he) | (go_at_call 44; with_reducible (refine (rin_any G.m n _).mono ?_); rintro e w1 ⟨he, hb1⟩; rw [hm] at he; subst he; have H1 := Lib.hid ((hb1.block w.heap.size (by simp)).trans (heap_alloc_new w (.cells #[.int .i64 G.o, .int .i64 G.e, .bool (G.m 0), .bool (G.m 1), .bool (G.m 2), .bool (G.m 3), .bool (G.m 4), .bool (G.m 5), .bool (G.g 0), .bool (G.g 1), .bool (G.g 2), .bool (G.g 3), .bool (G.g 4), .bool (G.g 5), .int .u64 (G.c 0), .int .u64 (G.c 1), .int .u64 (G.c 2), .int .u64 (G.c 3), .int .u64 (G.c 4), .int .u64 (G.c 5), .int .i64 G.s] 54))); have HB1 := Lib.hid ((((Below.refl _ _).alloc (Nat.le_refl _) _).trans (hb1.mono (by simp)) : Below w.heap.size w w1)); have hz1 : w.heap.size < w1.heap.size := (by have := hb1.size; simp at this; omega); have z0 : w1.cell? ⟨w.heap.size, 0, none⟩ = some (.int .i64 G.o) := ((cell_blk H1.out).trans rfl); have z1 : w1.cell? ⟨w.heap.size, 1, none⟩ = some (.int .i64 G.e) := ((cell_blk H1.out).trans rfl); have c0 : w1.cell? ⟨w.heap.size, 8, none⟩ = some (.bool (G.g 0)) := ((cell_blk H1.out).trans rfl); have c1 : w1.cell? ⟨w.heap.size, 9, none⟩ = some (.bool (G.g 1)) := ((cell_blk H1.out).trans rfl); have c2 : w1.cell? ⟨w.heap.size, 10, none⟩ = some (.bool (G.g 2)) := ((cell_blk H1.out).trans rfl); have c3 : w1.cell? ⟨w.heap.size, 11, none⟩ = some (.bool (G.g 3)) := ((cell_blk H1.out).trans rfl); have c4 : w1.cell? ⟨w.heap.size, 12, none⟩ = some (.bool (G.g 4)) := ((cell_blk H1.out).trans rfl); have c5 : w1.cell? ⟨w.heap.size, 13, none⟩ = some (.bool (G.g 5)) := ((cell_blk H1.out).trans rfl); clear hb1) | (go_at_call 44; with_reducible (refine (rin_any G.g n _).mono ?_); rintro e w2 ⟨he, hb2⟩; rw [hg] at he; subst he; have HB2 := Lib.hid (HB1.out.trans (hb2.mono (by omega))); have z1 : w2.cell? ⟨w.heap.size, 1, none⟩ = some (.int .i64 G.e) := ((hb2.cell (p := ⟨w.heap.size, 1, none⟩) hz1).trans z1); clear hb2))
  go_ret
  exact ⟨rfl, HB2.out⟩

set_option maxRecDepth 100000 in
set_option maxHeartbeats 1600000 in
theorem rm2_full (G : Gp) (a n : Int) (w : World) (hs : say a 2 n = true) (h1 : (G.o != a) = false) (hm : isM G.m n = false) (hg : isM G.g n = false) (h2 : decide (255 ≤ G.e) = true) : Calls Try.prog 34 #[.agg #[.int .i64 G.o, .int .i64 G.e, .bool (G.m 0), .bool (G.m 1), .bool (G.m 2), .bool (G.m 3), .bool (G.m 4), .bool (G.m 5), .bool (G.g 0), .bool (G.g 1), .bool (G.g 2), .bool (G.g 3), .bool (G.g 4), .bool (G.g 5), .int .u64 (G.c 0), .int .u64 (G.c 1), .int .u64 (G.c 2), .int .u64 (G.c 3), .int .u64 (G.c 4), .int .u64 (G.c 5), .int .i64 G.s], .int .i64 a, .int .i64 2, .int .i64 n] w fun e' w' => e' = .returned (.int .i64 14) ∧ Below w.heap.size w w' := by
  have HSAY := Lib.hid (show (!say a 2 n) = false from by rw [hs]; rfl)
  go_enter Try.func34, Try.ntmps34
  go_wp2_with (first | (go_at_call 43; refine (wrong_any _ _ _ _).mono ?_; rintro e w' ⟨he, rfl⟩; rw [HSAY.out] at he; subst he) | (go_at_call 44; with_reducible (refine (rin_any G.m n _).mono ?_); rintro e w1 ⟨he, hb1⟩; rw [hm] at he; subst he; have H1 := Lib.hid ((hb1.block w.heap.size (by simp)).trans (heap_alloc_new w (.cells #[.int .i64 G.o, .int .i64 G.e, .bool (G.m 0), .bool (G.m 1), .bool (G.m 2), .bool (G.m 3), .bool (G.m 4), .bool (G.m 5), .bool (G.g 0), .bool (G.g 1), .bool (G.g 2), .bool (G.g 3), .bool (G.g 4), .bool (G.g 5), .int .u64 (G.c 0), .int .u64 (G.c 1), .int .u64 (G.c 2), .int .u64 (G.c 3), .int .u64 (G.c 4), .int .u64 (G.c 5), .int .i64 G.s] 54))); have HB1 := Lib.hid ((((Below.refl _ _).alloc (Nat.le_refl _) _).trans (hb1.mono (by simp)) : Below w.heap.size w w1)); have hz1 : w.heap.size < w1.heap.size := (by have := hb1.size; simp at this; omega); have z0 : w1.cell? ⟨w.heap.size, 0, none⟩ = some (.int .i64 G.o) := ((cell_blk H1.out).trans rfl); have z1 : w1.cell? ⟨w.heap.size, 1, none⟩ = some (.int .i64 G.e) := ((cell_blk H1.out).trans rfl); have c0 : w1.cell? ⟨w.heap.size, 8, none⟩ = some (.bool (G.g 0)) := ((cell_blk H1.out).trans rfl); have c1 : w1.cell? ⟨w.heap.size, 9, none⟩ = some (.bool (G.g 1)) := ((cell_blk H1.out).trans rfl); have c2 : w1.cell? ⟨w.heap.size, 10, none⟩ = some (.bool (G.g 2)) := ((cell_blk H1.out).trans rfl); have c3 : w1.cell? ⟨w.heap.size, 11, none⟩ = some (.bool (G.g 3)) := ((cell_blk H1.out).trans rfl); have c4 : w1.cell? ⟨w.heap.size, 12, none⟩ = some (.bool (G.g 4)) := ((cell_blk H1.out).trans rfl); have c5 : w1.cell? ⟨w.heap.size, 13, none⟩ = some (.bool (G.g 5)) := ((cell_blk H1.out).trans rfl); clear hb1) | (go_at_call 44; with_reducible (refine (rin_any G.g n _).mono ?_); rintro e w2 ⟨he, hb2⟩; rw [hg] at he; subst he; have HB2 := Lib.hid (HB1.out.trans (hb2.mono (by omega))); have z1 : w2.cell? ⟨w.heap.size, 1, none⟩ = some (.int .i64 G.e) := ((hb2.cell (p := ⟨w.heap.size, 1, none⟩) hz1).trans z1); clear hb2))
  go_ret
  exact ⟨rfl, HB2.out⟩

set_option maxRecDepth 100000 in
set_option maxHeartbeats 1600000 in
theorem rm2_ok (G : Gp) (a n : Int) (w : World) (hs : say a 2 n = true) (h1 : (G.o != a) = false) (hm : isM G.m n = false) (hg : isM G.g n = false) (h2 : decide (255 ≤ G.e) = false) : Calls Try.prog 34 #[.agg #[.int .i64 G.o, .int .i64 G.e, .bool (G.m 0), .bool (G.m 1), .bool (G.m 2), .bool (G.m 3), .bool (G.m 4), .bool (G.m 5), .bool (G.g 0), .bool (G.g 1), .bool (G.g 2), .bool (G.g 3), .bool (G.g 4), .bool (G.g 5), .int .u64 (G.c 0), .int .u64 (G.c 1), .int .u64 (G.c 2), .int .u64 (G.c 3), .int .u64 (G.c 4), .int .u64 (G.c 5), .int .i64 G.s], .int .i64 a, .int .i64 2, .int .i64 n] w fun e' w' => e' = .returned (.int .i64 0) ∧ Below w.heap.size w w' := by
  have HSAY := Lib.hid (show (!say a 2 n) = false from by rw [hs]; rfl)
  go_enter Try.func34, Try.ntmps34
  go_wp2_with (first | (go_at_call 43; refine (wrong_any _ _ _ _).mono ?_; rintro e w' ⟨he, rfl⟩; rw [HSAY.out] at he; subst he) | (go_at_call 44; with_reducible (refine (rin_any G.m n _).mono ?_); rintro e w1 ⟨he, hb1⟩; rw [hm] at he; subst he; have H1 := Lib.hid ((hb1.block w.heap.size (by simp)).trans (heap_alloc_new w (.cells #[.int .i64 G.o, .int .i64 G.e, .bool (G.m 0), .bool (G.m 1), .bool (G.m 2), .bool (G.m 3), .bool (G.m 4), .bool (G.m 5), .bool (G.g 0), .bool (G.g 1), .bool (G.g 2), .bool (G.g 3), .bool (G.g 4), .bool (G.g 5), .int .u64 (G.c 0), .int .u64 (G.c 1), .int .u64 (G.c 2), .int .u64 (G.c 3), .int .u64 (G.c 4), .int .u64 (G.c 5), .int .i64 G.s] 54))); have HB1 := Lib.hid ((((Below.refl _ _).alloc (Nat.le_refl _) _).trans (hb1.mono (by simp)) : Below w.heap.size w w1)); have hz1 : w.heap.size < w1.heap.size := (by have := hb1.size; simp at this; omega); have z0 : w1.cell? ⟨w.heap.size, 0, none⟩ = some (.int .i64 G.o) := ((cell_blk H1.out).trans rfl); have z1 : w1.cell? ⟨w.heap.size, 1, none⟩ = some (.int .i64 G.e) := ((cell_blk H1.out).trans rfl); have c0 : w1.cell? ⟨w.heap.size, 8, none⟩ = some (.bool (G.g 0)) := ((cell_blk H1.out).trans rfl); have c1 : w1.cell? ⟨w.heap.size, 9, none⟩ = some (.bool (G.g 1)) := ((cell_blk H1.out).trans rfl); have c2 : w1.cell? ⟨w.heap.size, 10, none⟩ = some (.bool (G.g 2)) := ((cell_blk H1.out).trans rfl); have c3 : w1.cell? ⟨w.heap.size, 11, none⟩ = some (.bool (G.g 3)) := ((cell_blk H1.out).trans rfl); have c4 : w1.cell? ⟨w.heap.size, 12, none⟩ = some (.bool (G.g 4)) := ((cell_blk H1.out).trans rfl); have c5 : w1.cell? ⟨w.heap.size, 13, none⟩ = some (.bool (G.g 5)) := ((cell_blk H1.out).trans rfl); clear hb1) | (go_at_call 44; with_reducible (refine (rin_any G.g n _).mono ?_); rintro e w2 ⟨he, hb2⟩; rw [hg] at he; subst he; have HB2 := Lib.hid (HB1.out.trans (hb2.mono (by omega))); have z1 : w2.cell? ⟨w.heap.size, 1, none⟩ = some (.int .i64 G.e) := ((hb2.cell (p := ⟨w.heap.size, 1, none⟩) hz1).trans z1); clear hb2))
  go_ret
  exact ⟨rfl, HB2.out⟩

set_option maxRecDepth 100000 in
set_option maxHeartbeats 1600000 in
theorem rm3_not (G : Gp) (a n : Int) (w : World) (hs : say a 3 n = true) (h1 : (G.o != a) = false) (hm : isM G.m n = false) : Calls Try.prog 34 #[.agg #[.int .i64 G.o, .int .i64 G.e, .bool (G.m 0), .bool (G.m 1), .bool (G.m 2), .bool (G.m 3), .bool (G.m 4), .bool (G.m 5), .bool (G.g 0), .bool (G.g 1), .bool (G.g 2), .bool (G.g 3), .bool (G.g 4), .bool (G.g 5), .int .u64 (G.c 0), .int .u64 (G.c 1), .int .u64 (G.c 2), .int .u64 (G.c 3), .int .u64 (G.c 4), .int .u64 (G.c 5), .int .i64 G.s], .int .i64 a, .int .i64 3, .int .i64 n] w fun e' w' => e' = .returned (.int .i64 12) ∧ Below w.heap.size w w' := by
  have HSAY := Lib.hid (show (!say a 3 n) = false from by rw [hs]; rfl)
  go_enter Try.func34, Try.ntmps34
  go_wp2_with (first | (go_at_call 43; refine (wrong_any _ _ _ _).mono ?_; rintro e w' ⟨he, rfl⟩; rw [HSAY.out] at he; subst he) | (go_at_call 44; with_reducible (refine (rin_any G.m n _).mono ?_); rintro e w1 ⟨he, hb1⟩; rw [hm] at he; subst he; have H1 := Lib.hid ((hb1.block w.heap.size (by simp)).trans (heap_alloc_new w (.cells #[.int .i64 G.o, .int .i64 G.e, .bool (G.m 0), .bool (G.m 1), .bool (G.m 2), .bool (G.m 3), .bool (G.m 4), .bool (G.m 5), .bool (G.g 0), .bool (G.g 1), .bool (G.g 2), .bool (G.g 3), .bool (G.g 4), .bool (G.g 5), .int .u64 (G.c 0), .int .u64 (G.c 1), .int .u64 (G.c 2), .int .u64 (G.c 3), .int .u64 (G.c 4), .int .u64 (G.c 5), .int .i64 G.s] 54))); have HB1 := Lib.hid ((((Below.refl _ _).alloc (Nat.le_refl _) _).trans (hb1.mono (by simp)) : Below w.heap.size w w1)); have hz1 : w.heap.size < w1.heap.size := (by have := hb1.size; simp at this; omega); have z0 : w1.cell? ⟨w.heap.size, 0, none⟩ = some (.int .i64 G.o) := ((cell_blk H1.out).trans rfl); have z1 : w1.cell? ⟨w.heap.size, 1, none⟩ = some (.int .i64 G.e) := ((cell_blk H1.out).trans rfl); have c0 : w1.cell? ⟨w.heap.size, 8, none⟩ = some (.bool (G.g 0)) := ((cell_blk H1.out).trans rfl); have c1 : w1.cell? ⟨w.heap.size, 9, none⟩ = some (.bool (G.g 1)) := ((cell_blk H1.out).trans rfl); have c2 : w1.cell? ⟨w.heap.size, 10, none⟩ = some (.bool (G.g 2)) := ((cell_blk H1.out).trans rfl); have c3 : w1.cell? ⟨w.heap.size, 11, none⟩ = some (.bool (G.g 3)) := ((cell_blk H1.out).trans rfl); have c4 : w1.cell? ⟨w.heap.size, 12, none⟩ = some (.bool (G.g 4)) := ((cell_blk H1.out).trans rfl); have c5 : w1.cell? ⟨w.heap.size, 13, none⟩ = some (.bool (G.g 5)) := ((cell_blk H1.out).trans rfl); clear hb1))
  go_ret
  exact ⟨rfl, HB1.out⟩

set_option maxRecDepth 100000 in
set_option maxHeartbeats 1600000 in
theorem rm3_own (G : Gp) (a n : Int) (w : World) (hs : say a 3 n = true) (h1 : (G.o != a) = false) (hm : isM G.m n = true) (ho : (n == G.o) = true) : Calls Try.prog 34 #[.agg #[.int .i64 G.o, .int .i64 G.e, .bool (G.m 0), .bool (G.m 1), .bool (G.m 2), .bool (G.m 3), .bool (G.m 4), .bool (G.m 5), .bool (G.g 0), .bool (G.g 1), .bool (G.g 2), .bool (G.g 3), .bool (G.g 4), .bool (G.g 5), .int .u64 (G.c 0), .int .u64 (G.c 1), .int .u64 (G.c 2), .int .u64 (G.c 3), .int .u64 (G.c 4), .int .u64 (G.c 5), .int .i64 G.s], .int .i64 a, .int .i64 3, .int .i64 n] w fun e' w' => e' = .returned (.int .i64 12) ∧ Below w.heap.size w w' := by
  have HSAY := Lib.hid (show (!say a 3 n) = false from by rw [hs]; rfl)
  go_enter Try.func34, Try.ntmps34
  go_wp2_with (first | (go_at_call 43; refine (wrong_any _ _ _ _).mono ?_; rintro e w' ⟨he, rfl⟩; rw [HSAY.out] at he; subst he) | (go_at_call 44; with_reducible (refine (rin_any G.m n _).mono ?_); rintro e w1 ⟨he, hb1⟩; rw [hm] at he; subst he; have H1 := Lib.hid ((hb1.block w.heap.size (by simp)).trans (heap_alloc_new w (.cells #[.int .i64 G.o, .int .i64 G.e, .bool (G.m 0), .bool (G.m 1), .bool (G.m 2), .bool (G.m 3), .bool (G.m 4), .bool (G.m 5), .bool (G.g 0), .bool (G.g 1), .bool (G.g 2), .bool (G.g 3), .bool (G.g 4), .bool (G.g 5), .int .u64 (G.c 0), .int .u64 (G.c 1), .int .u64 (G.c 2), .int .u64 (G.c 3), .int .u64 (G.c 4), .int .u64 (G.c 5), .int .i64 G.s] 54))); have HB1 := Lib.hid ((((Below.refl _ _).alloc (Nat.le_refl _) _).trans (hb1.mono (by simp)) : Below w.heap.size w w1)); have hz1 : w.heap.size < w1.heap.size := (by have := hb1.size; simp at this; omega); have z0 : w1.cell? ⟨w.heap.size, 0, none⟩ = some (.int .i64 G.o) := ((cell_blk H1.out).trans rfl); have z1 : w1.cell? ⟨w.heap.size, 1, none⟩ = some (.int .i64 G.e) := ((cell_blk H1.out).trans rfl); have c0 : w1.cell? ⟨w.heap.size, 8, none⟩ = some (.bool (G.g 0)) := ((cell_blk H1.out).trans rfl); have c1 : w1.cell? ⟨w.heap.size, 9, none⟩ = some (.bool (G.g 1)) := ((cell_blk H1.out).trans rfl); have c2 : w1.cell? ⟨w.heap.size, 10, none⟩ = some (.bool (G.g 2)) := ((cell_blk H1.out).trans rfl); have c3 : w1.cell? ⟨w.heap.size, 11, none⟩ = some (.bool (G.g 3)) := ((cell_blk H1.out).trans rfl); have c4 : w1.cell? ⟨w.heap.size, 12, none⟩ = some (.bool (G.g 4)) := ((cell_blk H1.out).trans rfl); have c5 : w1.cell? ⟨w.heap.size, 13, none⟩ = some (.bool (G.g 5)) := ((cell_blk H1.out).trans rfl); clear hb1))
  go_ret
  exact ⟨rfl, HB1.out⟩

set_option maxRecDepth 100000 in
set_option maxHeartbeats 1600000 in
theorem rm5_not (G : Gp) (a n : Int) (w : World) (hs : say a 5 n = true) (h1 : (G.o != a) = false) (hm : isM G.m n = false) : Calls Try.prog 34 #[.agg #[.int .i64 G.o, .int .i64 G.e, .bool (G.m 0), .bool (G.m 1), .bool (G.m 2), .bool (G.m 3), .bool (G.m 4), .bool (G.m 5), .bool (G.g 0), .bool (G.g 1), .bool (G.g 2), .bool (G.g 3), .bool (G.g 4), .bool (G.g 5), .int .u64 (G.c 0), .int .u64 (G.c 1), .int .u64 (G.c 2), .int .u64 (G.c 3), .int .u64 (G.c 4), .int .u64 (G.c 5), .int .i64 G.s], .int .i64 a, .int .i64 5, .int .i64 n] w fun e' w' => e' = .returned (.int .i64 12) ∧ Below w.heap.size w w' := by
  have HSAY := Lib.hid (show (!say a 5 n) = false from by rw [hs]; rfl)
  go_enter Try.func34, Try.ntmps34
  go_wp2_with (first | (go_at_call 43; refine (wrong_any _ _ _ _).mono ?_; rintro e w' ⟨he, rfl⟩; rw [HSAY.out] at he; subst he) | (go_at_call 44; with_reducible (refine (rin_any G.m n _).mono ?_); rintro e w1 ⟨he, hb1⟩; rw [hm] at he; subst he; have H1 := Lib.hid ((hb1.block w.heap.size (by simp)).trans (heap_alloc_new w (.cells #[.int .i64 G.o, .int .i64 G.e, .bool (G.m 0), .bool (G.m 1), .bool (G.m 2), .bool (G.m 3), .bool (G.m 4), .bool (G.m 5), .bool (G.g 0), .bool (G.g 1), .bool (G.g 2), .bool (G.g 3), .bool (G.g 4), .bool (G.g 5), .int .u64 (G.c 0), .int .u64 (G.c 1), .int .u64 (G.c 2), .int .u64 (G.c 3), .int .u64 (G.c 4), .int .u64 (G.c 5), .int .i64 G.s] 54))); have HB1 := Lib.hid ((((Below.refl _ _).alloc (Nat.le_refl _) _).trans (hb1.mono (by simp)) : Below w.heap.size w w1)); have hz1 : w.heap.size < w1.heap.size := (by have := hb1.size; simp at this; omega); have z0 : w1.cell? ⟨w.heap.size, 0, none⟩ = some (.int .i64 G.o) := ((cell_blk H1.out).trans rfl); have z1 : w1.cell? ⟨w.heap.size, 1, none⟩ = some (.int .i64 G.e) := ((cell_blk H1.out).trans rfl); have c0 : w1.cell? ⟨w.heap.size, 8, none⟩ = some (.bool (G.g 0)) := ((cell_blk H1.out).trans rfl); have c1 : w1.cell? ⟨w.heap.size, 9, none⟩ = some (.bool (G.g 1)) := ((cell_blk H1.out).trans rfl); have c2 : w1.cell? ⟨w.heap.size, 10, none⟩ = some (.bool (G.g 2)) := ((cell_blk H1.out).trans rfl); have c3 : w1.cell? ⟨w.heap.size, 11, none⟩ = some (.bool (G.g 3)) := ((cell_blk H1.out).trans rfl); have c4 : w1.cell? ⟨w.heap.size, 12, none⟩ = some (.bool (G.g 4)) := ((cell_blk H1.out).trans rfl); have c5 : w1.cell? ⟨w.heap.size, 13, none⟩ = some (.bool (G.g 5)) := ((cell_blk H1.out).trans rfl); clear hb1))
  go_ret
  exact ⟨rfl, HB1.out⟩

set_option maxRecDepth 100000 in
set_option maxHeartbeats 1600000 in
theorem rm5_own (G : Gp) (a n : Int) (w : World) (hs : say a 5 n = true) (h1 : (G.o != a) = false) (hm : isM G.m n = true) (ho : (n == G.o) = true) : Calls Try.prog 34 #[.agg #[.int .i64 G.o, .int .i64 G.e, .bool (G.m 0), .bool (G.m 1), .bool (G.m 2), .bool (G.m 3), .bool (G.m 4), .bool (G.m 5), .bool (G.g 0), .bool (G.g 1), .bool (G.g 2), .bool (G.g 3), .bool (G.g 4), .bool (G.g 5), .int .u64 (G.c 0), .int .u64 (G.c 1), .int .u64 (G.c 2), .int .u64 (G.c 3), .int .u64 (G.c 4), .int .u64 (G.c 5), .int .i64 G.s], .int .i64 a, .int .i64 5, .int .i64 n] w fun e' w' => e' = .returned (.int .i64 12) ∧ Below w.heap.size w w' := by
  have HSAY := Lib.hid (show (!say a 5 n) = false from by rw [hs]; rfl)
  go_enter Try.func34, Try.ntmps34
  go_wp2_with (first | (go_at_call 43; refine (wrong_any _ _ _ _).mono ?_; rintro e w' ⟨he, rfl⟩; rw [HSAY.out] at he; subst he) | (go_at_call 44; with_reducible (refine (rin_any G.m n _).mono ?_); rintro e w1 ⟨he, hb1⟩; rw [hm] at he; subst he; have H1 := Lib.hid ((hb1.block w.heap.size (by simp)).trans (heap_alloc_new w (.cells #[.int .i64 G.o, .int .i64 G.e, .bool (G.m 0), .bool (G.m 1), .bool (G.m 2), .bool (G.m 3), .bool (G.m 4), .bool (G.m 5), .bool (G.g 0), .bool (G.g 1), .bool (G.g 2), .bool (G.g 3), .bool (G.g 4), .bool (G.g 5), .int .u64 (G.c 0), .int .u64 (G.c 1), .int .u64 (G.c 2), .int .u64 (G.c 3), .int .u64 (G.c 4), .int .u64 (G.c 5), .int .i64 G.s] 54))); have HB1 := Lib.hid ((((Below.refl _ _).alloc (Nat.le_refl _) _).trans (hb1.mono (by simp)) : Below w.heap.size w w1)); have hz1 : w.heap.size < w1.heap.size := (by have := hb1.size; simp at this; omega); have z0 : w1.cell? ⟨w.heap.size, 0, none⟩ = some (.int .i64 G.o) := ((cell_blk H1.out).trans rfl); have z1 : w1.cell? ⟨w.heap.size, 1, none⟩ = some (.int .i64 G.e) := ((cell_blk H1.out).trans rfl); have c0 : w1.cell? ⟨w.heap.size, 8, none⟩ = some (.bool (G.g 0)) := ((cell_blk H1.out).trans rfl); have c1 : w1.cell? ⟨w.heap.size, 9, none⟩ = some (.bool (G.g 1)) := ((cell_blk H1.out).trans rfl); have c2 : w1.cell? ⟨w.heap.size, 10, none⟩ = some (.bool (G.g 2)) := ((cell_blk H1.out).trans rfl); have c3 : w1.cell? ⟨w.heap.size, 11, none⟩ = some (.bool (G.g 3)) := ((cell_blk H1.out).trans rfl); have c4 : w1.cell? ⟨w.heap.size, 12, none⟩ = some (.bool (G.g 4)) := ((cell_blk H1.out).trans rfl); have c5 : w1.cell? ⟨w.heap.size, 13, none⟩ = some (.bool (G.g 5)) := ((cell_blk H1.out).trans rfl); clear hb1))
  go_ret
  exact ⟨rfl, HB1.out⟩

set_option maxRecDepth 100000 in
set_option maxHeartbeats 1600000 in
theorem rm3_full (G : Gp) (a n : Int) (w : World) (hs : say a 3 n = true) (h1 : (G.o != a) = false) (hm : isM G.m n = true) (ho : (n == G.o) = false) (h2 : decide (255 ≤ G.e) = true) : Calls Try.prog 34 #[.agg #[.int .i64 G.o, .int .i64 G.e, .bool (G.m 0), .bool (G.m 1), .bool (G.m 2), .bool (G.m 3), .bool (G.m 4), .bool (G.m 5), .bool (G.g 0), .bool (G.g 1), .bool (G.g 2), .bool (G.g 3), .bool (G.g 4), .bool (G.g 5), .int .u64 (G.c 0), .int .u64 (G.c 1), .int .u64 (G.c 2), .int .u64 (G.c 3), .int .u64 (G.c 4), .int .u64 (G.c 5), .int .i64 G.s], .int .i64 a, .int .i64 3, .int .i64 n] w fun e' w' => e' = .returned (.int .i64 14) ∧ Below w.heap.size w w' := by
  have HSAY := Lib.hid (show (!say a 3 n) = false from by rw [hs]; rfl)
  go_enter Try.func34, Try.ntmps34
  go_wp2_with (first | (go_at_call 43; refine (wrong_any _ _ _ _).mono ?_; rintro e w' ⟨he, rfl⟩; rw [HSAY.out] at he; subst he) | (go_at_call 44; with_reducible (refine (rin_any G.m n _).mono ?_); rintro e w1 ⟨he, hb1⟩; rw [hm] at he; subst he; have H1 := Lib.hid ((hb1.block w.heap.size (by simp)).trans (heap_alloc_new w (.cells #[.int .i64 G.o, .int .i64 G.e, .bool (G.m 0), .bool (G.m 1), .bool (G.m 2), .bool (G.m 3), .bool (G.m 4), .bool (G.m 5), .bool (G.g 0), .bool (G.g 1), .bool (G.g 2), .bool (G.g 3), .bool (G.g 4), .bool (G.g 5), .int .u64 (G.c 0), .int .u64 (G.c 1), .int .u64 (G.c 2), .int .u64 (G.c 3), .int .u64 (G.c 4), .int .u64 (G.c 5), .int .i64 G.s] 54))); have HB1 := Lib.hid ((((Below.refl _ _).alloc (Nat.le_refl _) _).trans (hb1.mono (by simp)) : Below w.heap.size w w1)); have hz1 : w.heap.size < w1.heap.size := (by have := hb1.size; simp at this; omega); have z0 : w1.cell? ⟨w.heap.size, 0, none⟩ = some (.int .i64 G.o) := ((cell_blk H1.out).trans rfl); have z1 : w1.cell? ⟨w.heap.size, 1, none⟩ = some (.int .i64 G.e) := ((cell_blk H1.out).trans rfl); have c0 : w1.cell? ⟨w.heap.size, 8, none⟩ = some (.bool (G.g 0)) := ((cell_blk H1.out).trans rfl); have c1 : w1.cell? ⟨w.heap.size, 9, none⟩ = some (.bool (G.g 1)) := ((cell_blk H1.out).trans rfl); have c2 : w1.cell? ⟨w.heap.size, 10, none⟩ = some (.bool (G.g 2)) := ((cell_blk H1.out).trans rfl); have c3 : w1.cell? ⟨w.heap.size, 11, none⟩ = some (.bool (G.g 3)) := ((cell_blk H1.out).trans rfl); have c4 : w1.cell? ⟨w.heap.size, 12, none⟩ = some (.bool (G.g 4)) := ((cell_blk H1.out).trans rfl); have c5 : w1.cell? ⟨w.heap.size, 13, none⟩ = some (.bool (G.g 5)) := ((cell_blk H1.out).trans rfl); clear hb1))
  go_ret
  exact ⟨rfl, HB1.out⟩

set_option maxRecDepth 100000 in
set_option maxHeartbeats 1600000 in
theorem rm3_ok (G : Gp) (a n : Int) (w : World) (hs : say a 3 n = true) (h1 : (G.o != a) = false) (hm : isM G.m n = true) (ho : (n == G.o) = false) (h2 : decide (255 ≤ G.e) = false) : Calls Try.prog 34 #[.agg #[.int .i64 G.o, .int .i64 G.e, .bool (G.m 0), .bool (G.m 1), .bool (G.m 2), .bool (G.m 3), .bool (G.m 4), .bool (G.m 5), .bool (G.g 0), .bool (G.g 1), .bool (G.g 2), .bool (G.g 3), .bool (G.g 4), .bool (G.g 5), .int .u64 (G.c 0), .int .u64 (G.c 1), .int .u64 (G.c 2), .int .u64 (G.c 3), .int .u64 (G.c 4), .int .u64 (G.c 5), .int .i64 G.s], .int .i64 a, .int .i64 3, .int .i64 n] w fun e' w' => e' = .returned (.int .i64 0) ∧ Below w.heap.size w w' := by
  have HSAY := Lib.hid (show (!say a 3 n) = false from by rw [hs]; rfl)
  go_enter Try.func34, Try.ntmps34
  go_wp2_with (first | (go_at_call 43; refine (wrong_any _ _ _ _).mono ?_; rintro e w' ⟨he, rfl⟩; rw [HSAY.out] at he; subst he) | (go_at_call 44; with_reducible (refine (rin_any G.m n _).mono ?_); rintro e w1 ⟨he, hb1⟩; rw [hm] at he; subst he; have H1 := Lib.hid ((hb1.block w.heap.size (by simp)).trans (heap_alloc_new w (.cells #[.int .i64 G.o, .int .i64 G.e, .bool (G.m 0), .bool (G.m 1), .bool (G.m 2), .bool (G.m 3), .bool (G.m 4), .bool (G.m 5), .bool (G.g 0), .bool (G.g 1), .bool (G.g 2), .bool (G.g 3), .bool (G.g 4), .bool (G.g 5), .int .u64 (G.c 0), .int .u64 (G.c 1), .int .u64 (G.c 2), .int .u64 (G.c 3), .int .u64 (G.c 4), .int .u64 (G.c 5), .int .i64 G.s] 54))); have HB1 := Lib.hid ((((Below.refl _ _).alloc (Nat.le_refl _) _).trans (hb1.mono (by simp)) : Below w.heap.size w w1)); have hz1 : w.heap.size < w1.heap.size := (by have := hb1.size; simp at this; omega); have z0 : w1.cell? ⟨w.heap.size, 0, none⟩ = some (.int .i64 G.o) := ((cell_blk H1.out).trans rfl); have z1 : w1.cell? ⟨w.heap.size, 1, none⟩ = some (.int .i64 G.e) := ((cell_blk H1.out).trans rfl); have c0 : w1.cell? ⟨w.heap.size, 8, none⟩ = some (.bool (G.g 0)) := ((cell_blk H1.out).trans rfl); have c1 : w1.cell? ⟨w.heap.size, 9, none⟩ = some (.bool (G.g 1)) := ((cell_blk H1.out).trans rfl); have c2 : w1.cell? ⟨w.heap.size, 10, none⟩ = some (.bool (G.g 2)) := ((cell_blk H1.out).trans rfl); have c3 : w1.cell? ⟨w.heap.size, 11, none⟩ = some (.bool (G.g 3)) := ((cell_blk H1.out).trans rfl); have c4 : w1.cell? ⟨w.heap.size, 12, none⟩ = some (.bool (G.g 4)) := ((cell_blk H1.out).trans rfl); have c5 : w1.cell? ⟨w.heap.size, 13, none⟩ = some (.bool (G.g 5)) := ((cell_blk H1.out).trans rfl); clear hb1))
  go_ret
  exact ⟨rfl, HB1.out⟩

set_option maxRecDepth 100000 in
set_option maxHeartbeats 1600000 in
theorem rm5_ok (G : Gp) (a n : Int) (w : World) (hs : say a 5 n = true) (h1 : (G.o != a) = false) (hm : isM G.m n = true) (ho : (n == G.o) = false) : Calls Try.prog 34 #[.agg #[.int .i64 G.o, .int .i64 G.e, .bool (G.m 0), .bool (G.m 1), .bool (G.m 2), .bool (G.m 3), .bool (G.m 4), .bool (G.m 5), .bool (G.g 0), .bool (G.g 1), .bool (G.g 2), .bool (G.g 3), .bool (G.g 4), .bool (G.g 5), .int .u64 (G.c 0), .int .u64 (G.c 1), .int .u64 (G.c 2), .int .u64 (G.c 3), .int .u64 (G.c 4), .int .u64 (G.c 5), .int .i64 G.s], .int .i64 a, .int .i64 5, .int .i64 n] w fun e' w' => e' = .returned (.int .i64 0) ∧ Below w.heap.size w w' := by
  have HSAY := Lib.hid (show (!say a 5 n) = false from by rw [hs]; rfl)
  go_enter Try.func34, Try.ntmps34
  go_wp2_with (first | (go_at_call 43; refine (wrong_any _ _ _ _).mono ?_; rintro e w' ⟨he, rfl⟩; rw [HSAY.out] at he; subst he) | (go_at_call 44; with_reducible (refine (rin_any G.m n _).mono ?_); rintro e w1 ⟨he, hb1⟩; rw [hm] at he; subst he; have H1 := Lib.hid ((hb1.block w.heap.size (by simp)).trans (heap_alloc_new w (.cells #[.int .i64 G.o, .int .i64 G.e, .bool (G.m 0), .bool (G.m 1), .bool (G.m 2), .bool (G.m 3), .bool (G.m 4), .bool (G.m 5), .bool (G.g 0), .bool (G.g 1), .bool (G.g 2), .bool (G.g 3), .bool (G.g 4), .bool (G.g 5), .int .u64 (G.c 0), .int .u64 (G.c 1), .int .u64 (G.c 2), .int .u64 (G.c 3), .int .u64 (G.c 4), .int .u64 (G.c 5), .int .i64 G.s] 54))); have HB1 := Lib.hid ((((Below.refl _ _).alloc (Nat.le_refl _) _).trans (hb1.mono (by simp)) : Below w.heap.size w w1)); have hz1 : w.heap.size < w1.heap.size := (by have := hb1.size; simp at this; omega); have z0 : w1.cell? ⟨w.heap.size, 0, none⟩ = some (.int .i64 G.o) := ((cell_blk H1.out).trans rfl); have z1 : w1.cell? ⟨w.heap.size, 1, none⟩ = some (.int .i64 G.e) := ((cell_blk H1.out).trans rfl); have c0 : w1.cell? ⟨w.heap.size, 8, none⟩ = some (.bool (G.g 0)) := ((cell_blk H1.out).trans rfl); have c1 : w1.cell? ⟨w.heap.size, 9, none⟩ = some (.bool (G.g 1)) := ((cell_blk H1.out).trans rfl); have c2 : w1.cell? ⟨w.heap.size, 10, none⟩ = some (.bool (G.g 2)) := ((cell_blk H1.out).trans rfl); have c3 : w1.cell? ⟨w.heap.size, 11, none⟩ = some (.bool (G.g 3)) := ((cell_blk H1.out).trans rfl); have c4 : w1.cell? ⟨w.heap.size, 12, none⟩ = some (.bool (G.g 4)) := ((cell_blk H1.out).trans rfl); have c5 : w1.cell? ⟨w.heap.size, 13, none⟩ = some (.bool (G.g 5)) := ((cell_blk H1.out).trans rfl); clear hb1))
  go_ret
  exact ⟨rfl, HB1.out⟩

theorem rmay_any (G : Gp) (a b n : Int) (w : World) : Calls Try.prog 34 #[.agg #[.int .i64 G.o, .int .i64 G.e, .bool (G.m 0), .bool (G.m 1), .bool (G.m 2), .bool (G.m 3), .bool (G.m 4), .bool (G.m 5), .bool (G.g 0), .bool (G.g 1), .bool (G.g 2), .bool (G.g 3), .bool (G.g 4), .bool (G.g 5), .int .u64 (G.c 0), .int .u64 (G.c 1), .int .u64 (G.c 2), .int .u64 (G.c 3), .int .u64 (G.c 4), .int .u64 (G.c 5), .int .i64 G.s], .int .i64 a, .int .i64 b, .int .i64 n] w fun e' w' => e' = .returned (.int .i64 (mayF G a b n)) ∧ Below w.heap.size w w' := by
  cases hs : say a b n
  · exact rmay_wrong G a b n w hs
  · obtain ⟨s1, s2, s3, s4⟩ := say_spec hs
    rcases (by omega : b = 1 ∨ b = 2 ∨ b = 3 ∨ b = 4 ∨ b = 5) with rfl | rfl | rfl | rfl | rfl
    · have hn : n = 0 := by simpa using s4
      subst hn
      by_cases h1 : G.o = 0
      · by_cases h2 : 255 ≤ G.e
        · refine (rm1_full G a w hs (by simpa using h1) (by simpa using h2)).mono fun e' w' h => ⟨h.1.trans (ret_i ?_), h.2⟩
          simp [mayF, hs, alw, h1, h2]
        · refine (rm1_ok G a w hs (by simpa using h1) (by simpa using h2)).mono fun e' w' h => ⟨h.1.trans (ret_i ?_), h.2⟩
          simp [mayF, hs, alw, h1, h2]
      · refine (rm1_bad G a w hs (by simpa using h1)).mono fun e' w' h => ⟨h.1.trans (ret_i ?_), h.2⟩
        simp [mayF, hs, alw, h1]
    · have hi : ing n = true := by simpa using s4
      by_cases h1 : G.o = a
      · have hg' : isM G.g n = G.g (n - 1).toNat := by simp [isM, hi]
        cases hm : isM G.m n
        · cases hg : isM G.g n
          · have hg2 : G.g (n - 1).toNat = false := by rw [← hg']; exact hg
            by_cases h2 : 255 ≤ G.e
            · refine (rm2_full G a n w hs (by simpa using h1) hm hg (by simpa using h2)).mono fun e' w' h => ⟨h.1.trans (ret_i ?_), h.2⟩
              simp [mayF, hs, alw, h1, h2, hm]; simpa using hg2
            · refine (rm2_ok G a n w hs (by simpa using h1) hm hg (by simpa using h2)).mono fun e' w' h => ⟨h.1.trans (ret_i ?_), h.2⟩
              simp [mayF, hs, alw, h1, h2, hm]; simpa using hg2
          · have hg2 : G.g (n - 1).toNat = true := by rw [← hg']; exact hg
            refine (rm2_gone G a n w hs (by simpa using h1) hm hg).mono fun e' w' h => ⟨h.1.trans (ret_i ?_), h.2⟩
            simp [mayF, hs, alw, h1, hm]; intro hc; simp at hg2; rw [hg2] at hc; cases hc
        · refine (rm2_mem G a n w hs (by simpa using h1) hm).mono fun e' w' h => ⟨h.1.trans (ret_i ?_), h.2⟩
          simp [mayF, hs, alw, h1, hm]
      · refine (rm2_bad G a n w hs (by simpa using h1)).mono fun e' w' h => ⟨h.1.trans (ret_i ?_), h.2⟩
        simp [mayF, hs, alw, Ne.symm h1]
    · by_cases h1 : G.o = a
      · cases hm : isM G.m n
        · refine (rm3_not G a n w hs (by simpa using h1) hm).mono fun e' w' h => ⟨h.1.trans (ret_i ?_), h.2⟩
          simp [mayF, hs, alw, h1, hm]
        · by_cases ho : n = G.o
          · refine (rm3_own G a n w hs (by simpa using h1) hm (by simpa using ho)).mono fun e' w' h => ⟨h.1.trans (ret_i ?_), h.2⟩
            subst h1; subst ho; simp [mayF, hs, alw, hm]
          · by_cases h2 : 255 ≤ G.e
            · refine (rm3_full G a n w hs (by simpa using h1) hm (by simpa using ho) (by simpa using h2)).mono fun e' w' h => ⟨h.1.trans (ret_i ?_), h.2⟩
              subst h1; simp [mayF, hs, alw, h2, hm, ho]
            · refine (rm3_ok G a n w hs (by simpa using h1) hm (by simpa using ho) (by simpa using h2)).mono fun e' w' h => ⟨h.1.trans (ret_i ?_), h.2⟩
              subst h1; simp [mayF, hs, alw, h2, hm, ho]
      · refine (rm3_bad G a n w hs (by simpa using h1)).mono fun e' w' h => ⟨h.1.trans (ret_i ?_), h.2⟩
        simp [mayF, hs, alw, Ne.symm h1]
    · by_cases h1 : G.o = a
      · by_cases h2 : 255 ≤ G.e
        · refine (rm4_full G a n w hs (by simpa using h1) (by simpa using h2)).mono fun e' w' h => ⟨h.1.trans (ret_i ?_), h.2⟩
          simp [mayF, hs, alw, h1, h2]
        · refine (rm4_ok G a n w hs (by simpa using h1) (by simpa using h2)).mono fun e' w' h => ⟨h.1.trans (ret_i ?_), h.2⟩
          simp [mayF, hs, alw, h1, h2]
      · refine (rm4_bad G a n w hs (by simpa using h1)).mono fun e' w' h => ⟨h.1.trans (ret_i ?_), h.2⟩
        simp [mayF, hs, alw, Ne.symm h1]
    · by_cases h1 : G.o = a
      · cases hm : isM G.m n
        · refine (rm5_not G a n w hs (by simpa using h1) hm).mono fun e' w' h => ⟨h.1.trans (ret_i ?_), h.2⟩
          simp [mayF, hs, alw, h1, hm]
        · by_cases ho : n = G.o
          · refine (rm5_own G a n w hs (by simpa using h1) hm (by simpa using ho)).mono fun e' w' h => ⟨h.1.trans (ret_i ?_), h.2⟩
            subst h1; subst ho; simp [mayF, hs, alw, hm]
          · refine (rm5_ok G a n w hs (by simpa using h1) hm (by simpa using ho)).mono fun e' w' h => ⟨h.1.trans (ret_i ?_), h.2⟩
            subst h1; simp [mayF, hs, alw, hm, ho]
      · refine (rm5_bad G a n w hs (by simpa using h1)).mono fun e' w' h => ⟨h.1.trans (ret_i ?_), h.2⟩
        simp [mayF, hs, alw, Ne.symm h1]
end Go.Proofs.Ytmmaiohnfphcjaa
