/- Contracts of package group. -/
import Derived.Test.YtmmaiohnfphcjaaGrp2
import Derived.Test.YtmmaiohnfphcjaaU
import Derived.Test.YtmmaiohnfphcjaaEq
import Derived.RegionTactic
import Derived.BigRegion
import Derived.Deep.QuietTactic
import Derived.BigQuiet
import Derived.WalkSmall
import Derived.WalkLawsBesides
namespace Go.Proofs.Ytmmaiohnfphcjaa
open Go Go.ChangeShapes Go.WideShapes Go.ChangeAt Go.RowKit
set_option linter.unusedVariables false

theorem ret_i {p : IntKind} {a a' : Int} (h : a' = a) : Ending.returned (.int p a) = Ending.returned (.int p a') := by rw [h]

structure Gp where
  o : Int
  e : Int
  m : Nat → Bool
  g : Nat → Bool
  c : Nat → Int
  s : Int
def upd {α : Type} (f : Nat → α) (i : Nat) (b : α) : Nat → α := fun j => if j = i then b else f j
/-- The group behind a control. -/
def behF (G : Gp) (a b n cut : Int) : Gp :=
  if say a b n = false then G
  else if b = 1 then ⟨a, G.e + 1, upd G.m (a - 1).toNat true, G.g, G.c, G.s + 1⟩
  else if b = 2 then ⟨G.o, G.e + 1, upd G.m (n - 1).toNat true, G.g, G.c, G.s + 1⟩
  else if b = 3 then ⟨G.o, G.e + 1, upd G.m (n - 1).toNat false, upd G.g (n - 1).toNat true, upd G.c (n - 1).toNat cut, G.s + 1⟩
  else if b = 4 then ⟨G.o, G.e + 1, G.m, G.g, G.c, G.s + 1⟩
  else ⟨n, G.e, G.m, G.g, G.c, G.s + 1⟩

theorem say_spec {a b n : Int} (h : say a b n = true) : ing a = true ∧ 1 ≤ b ∧ b ≤ 5 ∧ (if b = 2 ∨ b = 3 ∨ b = 5 then ing n else n == 0) = true := by
  simp only [say, Bool.and_eq_true, decide_eq_true_eq] at h
  exact ⟨h.1.1.1, h.1.1.2, h.1.2, h.2⟩

theorem beh_any (G : Gp) (a b n cut : Int) (e0 : -4611686018427387904 ≤ G.e) (e1 : G.e ≤ 4611686018427387904) (s0 : -4611686018427387904 ≤ G.s) (s1 : G.s ≤ 4611686018427387904) (w : World) :
    Calls Try.prog 31 #[.agg #[.int .i64 G.o, .int .i64 G.e, .bool (G.m 0), .bool (G.m 1), .bool (G.m 2), .bool (G.m 3), .bool (G.m 4), .bool (G.m 5), .bool (G.g 0), .bool (G.g 1), .bool (G.g 2), .bool (G.g 3), .bool (G.g 4), .bool (G.g 5), .int .u64 (G.c 0), .int .u64 (G.c 1), .int .u64 (G.c 2), .int .u64 (G.c 3), .int .u64 (G.c 4), .int .u64 (G.c 5), .int .i64 G.s], .int .i64 a, .int .i64 b, .int .i64 n, .int .u64 cut] w fun e' w' => e' = .returned (.agg #[.int .i64 (behF G a b n cut).o, .int .i64 (behF G a b n cut).e, .bool ((behF G a b n cut).m 0), .bool ((behF G a b n cut).m 1), .bool ((behF G a b n cut).m 2), .bool ((behF G a b n cut).m 3), .bool ((behF G a b n cut).m 4), .bool ((behF G a b n cut).m 5), .bool ((behF G a b n cut).g 0), .bool ((behF G a b n cut).g 1), .bool ((behF G a b n cut).g 2), .bool ((behF G a b n cut).g 3), .bool ((behF G a b n cut).g 4), .bool ((behF G a b n cut).g 5), .int .u64 ((behF G a b n cut).c 0), .int .u64 ((behF G a b n cut).c 1), .int .u64 ((behF G a b n cut).c 2), .int .u64 ((behF G a b n cut).c 3), .int .u64 ((behF G a b n cut).c 4), .int .u64 ((behF G a b n cut).c 5), .int .i64 (behF G a b n cut).s]) ∧ Below w.heap.size w w' := by
  cases hs : say a b n
  · have e : behF G a b n cut = G := by simp [behF, hs]
    rw [e]
    exact beh_no G.o G.e G.m G.g G.c G.s a b n cut e0 e1 s0 s1 w hs
  · obtain ⟨h1, h2, h3, h4⟩ := say_spec hs
    rcases (by omega : b = 1 ∨ b = 2 ∨ b = 3 ∨ b = 4 ∨ b = 5) with rfl | rfl | rfl | rfl | rfl
    · have hn : n = 0 := by simpa using h4
      subst hn
      rcases six_cases (ing_iff.1 h1) with rfl | rfl | rfl | rfl | rfl | rfl
      · simpa [behF, hs, upd] using beh1_1 G.o G.e G.m G.g G.c G.s cut e0 e1 s0 s1 w
      · simpa [behF, hs, upd] using beh1_2 G.o G.e G.m G.g G.c G.s cut e0 e1 s0 s1 w
      · simpa [behF, hs, upd] using beh1_3 G.o G.e G.m G.g G.c G.s cut e0 e1 s0 s1 w
      · simpa [behF, hs, upd] using beh1_4 G.o G.e G.m G.g G.c G.s cut e0 e1 s0 s1 w
      · simpa [behF, hs, upd] using beh1_5 G.o G.e G.m G.g G.c G.s cut e0 e1 s0 s1 w
      · simpa [behF, hs, upd] using beh1_6 G.o G.e G.m G.g G.c G.s cut e0 e1 s0 s1 w
    · have hi : ing n = true := by simpa using h4
      rcases six_cases (ing_iff.1 hi) with rfl | rfl | rfl | rfl | rfl | rfl
      · simpa [behF, hs, upd] using beh2_1 G.o G.e G.m G.g G.c G.s a cut e0 e1 s0 s1 w hs
      · simpa [behF, hs, upd] using beh2_2 G.o G.e G.m G.g G.c G.s a cut e0 e1 s0 s1 w hs
      · simpa [behF, hs, upd] using beh2_3 G.o G.e G.m G.g G.c G.s a cut e0 e1 s0 s1 w hs
      · simpa [behF, hs, upd] using beh2_4 G.o G.e G.m G.g G.c G.s a cut e0 e1 s0 s1 w hs
      · simpa [behF, hs, upd] using beh2_5 G.o G.e G.m G.g G.c G.s a cut e0 e1 s0 s1 w hs
      · simpa [behF, hs, upd] using beh2_6 G.o G.e G.m G.g G.c G.s a cut e0 e1 s0 s1 w hs
    · have hi : ing n = true := by simpa using h4
      rcases six_cases (ing_iff.1 hi) with rfl | rfl | rfl | rfl | rfl | rfl
      · simpa [behF, hs, upd] using beh3_1 G.o G.e G.m G.g G.c G.s a cut e0 e1 s0 s1 w hs
      · simpa [behF, hs, upd] using beh3_2 G.o G.e G.m G.g G.c G.s a cut e0 e1 s0 s1 w hs
      · simpa [behF, hs, upd] using beh3_3 G.o G.e G.m G.g G.c G.s a cut e0 e1 s0 s1 w hs
      · simpa [behF, hs, upd] using beh3_4 G.o G.e G.m G.g G.c G.s a cut e0 e1 s0 s1 w hs
      · simpa [behF, hs, upd] using beh3_5 G.o G.e G.m G.g G.c G.s a cut e0 e1 s0 s1 w hs
      · simpa [behF, hs, upd] using beh3_6 G.o G.e G.m G.g G.c G.s a cut e0 e1 s0 s1 w hs
    · simpa [behF, hs] using beh4 G.o G.e G.m G.g G.c G.s a n cut e0 e1 s0 s1 w hs
    · simpa [behF, hs] using beh5 G.o G.e G.m G.g G.c G.s a n cut e0 e1 s0 s1 w hs

/-- May's error. -/
def mayF (G : Gp) (a b n : Int) : Int := if say a b n = false then 1 else if alw G.o G.m G.g a b n = false then 12 else if b ≠ 5 ∧ 255 ≤ G.e then 14 else 0

set_option maxRecDepth 100000 in
set_option maxHeartbeats 1600000 in
theorem may_any (G : Gp) (a b n : Int) (w : World) : Calls Try.prog 30 #[.agg #[.int .i64 G.o, .int .i64 G.e, .bool (G.m 0), .bool (G.m 1), .bool (G.m 2), .bool (G.m 3), .bool (G.m 4), .bool (G.m 5), .bool (G.g 0), .bool (G.g 1), .bool (G.g 2), .bool (G.g 3), .bool (G.g 4), .bool (G.g 5), .int .u64 (G.c 0), .int .u64 (G.c 1), .int .u64 (G.c 2), .int .u64 (G.c 3), .int .u64 (G.c 4), .int .u64 (G.c 5), .int .i64 G.s], .int .i64 a, .int .i64 b, .int .i64 n] w fun e' w' => e' = .returned (.int .i64 (mayF G a b n)) ∧ Below w.heap.size w w' := by
  cases hs : say a b n
  · have e : mayF G a b n = 1 := by simp [mayF, hs]
    go_enter Try.func30, Try.ntmps30
    go_wp2_with (go_at_call 40; refine (say_any _ _ _ _).mono ?_; rintro e w' ⟨rfl, rfl⟩)
    go_ret
    exact ⟨ret_i e, (Below.refl _ _).alloc (Nat.le_refl _) _⟩
  · cases ha : alw G.o G.m G.g a b n
    · have e : mayF G a b n = 12 := by simp [mayF, hs, ha]
      have HE := Lib.hid e
      clear e
      go_enter Try.func30, Try.ntmps30
      go_wp2_with (first | (go_at_call 40; refine (say_any _ _ _ _).mono ?_; rintro e w' ⟨rfl, rfl⟩) | (refine wpList_load_row (by rfl) 54 (.tmp 4) (by rfl) (w.heap.size) (by rfl) 54 _ (0, 0) _ (heap_alloc_new w _) Try.underlying54 (by rfl) (by kernel_rfl) ?_))
      refine (alw_any G.o G.e G.m G.g G.c G.s a b n _ hs).mono ?_
      rintro e' w1 ⟨rfl, hb1⟩
      have HB := Lib.hid hb1
      clear hb1
      go_wp2_with fail
      go_ret
      exact ⟨ret_i HE.out, ((Below.refl _ _).alloc (Nat.le_refl _) _).trans (HB.out.mono (by simp))⟩
    · by_cases h5 : b = 5
      · subst h5
        have e : mayF G a 5 n = 0 := by simp [mayF, hs, ha]
        have HE := Lib.hid e
        clear e
        go_enter Try.func30, Try.ntmps30
        go_wp2_with (first | (go_at_call 40; refine (say_any _ _ _ _).mono ?_; rintro e w' ⟨rfl, rfl⟩) | (refine wpList_load_row (by rfl) 54 (.tmp 4) (by rfl) (w.heap.size) (by rfl) 54 _ (0, 0) _ (heap_alloc_new w _) Try.underlying54 (by rfl) (by kernel_rfl) ?_))
        refine (alw_any G.o G.e G.m G.g G.c G.s a 5 n _ hs).mono ?_
        rintro e' w1 ⟨rfl, hb1⟩
        have HB := Lib.hid hb1
        clear hb1
        go_wp2_with fail
        go_ret
        exact ⟨ret_i HE.out, ((Below.refl _ _).alloc (Nat.le_refl _) _).trans (HB.out.mono (by simp))⟩
      · have hb5 : (b != 5) = true := by simpa using h5
        by_cases he : 255 ≤ G.e
        all_goals
          have e := show mayF G a b n = _ from by simp only [mayF, hs, ha]; simp [h5, he]; rfl
          have HE := Lib.hid e
          clear e
          go_enter Try.func30, Try.ntmps30
          go_wp2_with (first | (go_at_call 40; refine (say_any _ _ _ _).mono ?_; rintro e w' ⟨rfl, rfl⟩) | (refine wpList_load_row (by rfl) 54 (.tmp 4) (by rfl) (w.heap.size) (by rfl) 54 _ (0, 0) _ (heap_alloc_new w _) Try.underlying54 (by rfl) (by kernel_rfl) ?_))
          refine (alw_any G.o G.e G.m G.g G.c G.s a b n _ hs).mono ?_
          rintro e' w1 ⟨rfl, hb1⟩
          have hc1 : w1.cell? ⟨w.heap.size, 1, none⟩ = some (.int .i64 G.e) := by rw [hb1.cell (by simp)]; go_simp
          have HB := Lib.hid hb1
          clear hb1
          go_wp2_with fail
          go_ret
          exact ⟨ret_i HE.out, ((Below.refl _ _).alloc (Nat.le_refl _) _).trans (HB.out.mono (by simp))⟩

/-- Whether a writer's entry counts. -/
def cntF (G : Gp) (n q : Int) : Bool := isM G.m n || ing n && G.g (n - 1).toNat && decide (q ≤ G.c (n - 1).toNat)

theorem six_cell {W W1 : World} {B : Nat} (G : Gp) (k : Nat) (hk : k < 6) (hb : Below (W.alloc (.cells #[.int .i64 G.o, .int .i64 G.e, .bool (G.m 0), .bool (G.m 1), .bool (G.m 2), .bool (G.m 3), .bool (G.m 4), .bool (G.m 5), .bool (G.g 0), .bool (G.g 1), .bool (G.g 2), .bool (G.g 3), .bool (G.g 4), .bool (G.g 5), .int .u64 (G.c 0), .int .u64 (G.c 1), .int .u64 (G.c 2), .int .u64 (G.c 3), .int .u64 (G.c 4), .int .u64 (G.c 5), .int .i64 G.s] 54)).heap.size (W.alloc (.cells #[.int .i64 G.o, .int .i64 G.e, .bool (G.m 0), .bool (G.m 1), .bool (G.m 2), .bool (G.m 3), .bool (G.m 4), .bool (G.m 5), .bool (G.g 0), .bool (G.g 1), .bool (G.g 2), .bool (G.g 3), .bool (G.g 4), .bool (G.g 5), .int .u64 (G.c 0), .int .u64 (G.c 1), .int .u64 (G.c 2), .int .u64 (G.c 3), .int .u64 (G.c 4), .int .u64 (G.c 5), .int .i64 G.s] 54)) W1) (hB : B = W.heap.size) :
    W1.cell? ⟨B, 8 + k, none⟩ = some (.bool (G.g k)) ∧ W1.cell? ⟨B, 14 + k, none⟩ = some (.int .u64 (G.c k)) := by
  subst hB
  rw [hb.cell (by simp), hb.cell (by simp)]
  rcases (by omega : k = 0 ∨ k = 1 ∨ k = 2 ∨ k = 3 ∨ k = 4 ∨ k = 5) with rfl | rfl | rfl | rfl | rfl | rfl <;> exact ⟨by go_simp, by go_simp⟩

set_option maxRecDepth 100000 in
set_option maxHeartbeats 1600000 in
theorem cnt_any (G : Gp) (n q : Int) (w : World) : Calls Try.prog 33 #[.agg #[.int .i64 G.o, .int .i64 G.e, .bool (G.m 0), .bool (G.m 1), .bool (G.m 2), .bool (G.m 3), .bool (G.m 4), .bool (G.m 5), .bool (G.g 0), .bool (G.g 1), .bool (G.g 2), .bool (G.g 3), .bool (G.g 4), .bool (G.g 5), .int .u64 (G.c 0), .int .u64 (G.c 1), .int .u64 (G.c 2), .int .u64 (G.c 3), .int .u64 (G.c 4), .int .u64 (G.c 5), .int .i64 G.s], .int .i64 n, .int .u64 q] w fun e' w' => e' = .returned (.bool (cntF G n q)) ∧ Below w.heap.size w w' := by
  cases hm : isM G.m n
  · cases hi : ing n
    · have e : cntF G n q = false := by simp [cntF, hm, hi]
      have HE := Lib.hid e
      clear e
      go_enter Try.func33, Try.ntmps33
      go_wp2_with (refine wpList_load_row (by rfl) 54 (.tmp 3) (by rfl) (w.heap.size) (by rfl) 54 _ (0, 0) _ (heap_alloc_new w _) Try.underlying54 (by rfl) (by kernel_rfl) ?_)
      refine (is_any' G.o G.e G.m G.g G.c G.s n _).mono ?_
      rintro e' w1 ⟨rfl, hb1⟩
      have HB := Lib.hid hb1
      clear hb1
      go_wp2_with (go_at_call 42; refine (ing_any _ _).mono ?_; rintro e w' ⟨rfl, rfl⟩)
      go_ret
      exact ⟨ret_bo HE.out, ((Below.refl _ _).alloc (Nat.le_refl _) _).trans (HB.out.mono (by simp))⟩
    · have hn := ing_iff.1 hi
      obtain ⟨k, rfl⟩ : ∃ k : Nat, n = (k : Int) + 1 := ⟨(n - 1).toNat, by omega⟩
      have hk : k < 6 := by omega
      have hk0 : (0 : Int) ≤ (k : Int) := by omega
      have hk1 : (k : Int) < 6 := by omega
      have e : cntF G (↑k + 1) q = (G.g k && decide (q ≤ G.c k)) := by simp [cntF, hm, hi]
      have HE := Lib.hid e
      clear e hn
      cases hg : G.g k
      all_goals
        go_enter Try.func33, Try.ntmps33
        go_wp2_with (refine wpList_load_row (by rfl) 54 (.tmp 3) (by rfl) (w.heap.size) (by rfl) 54 _ (0, 0) _ (heap_alloc_new w _) Try.underlying54 (by rfl) (by kernel_rfl) ?_)
        refine (is_any' G.o G.e G.m G.g G.c G.s _ _).mono ?_
        rintro e' w1 ⟨rfl, hb1⟩
        obtain ⟨k1, k2⟩ := six_cell G k hk hb1 rfl
        have HB := Lib.hid hb1
        clear hb1
        go_wp2_with (go_at_call 42; refine (ing_any _ _).mono ?_; rintro e w' ⟨rfl, rfl⟩)
        go_ret
        exact ⟨ret_bo (by rw [HE.out, hg]; simp), ((Below.refl _ _).alloc (Nat.le_refl _) _).trans (HB.out.mono (by simp))⟩
  · have e : cntF G n q = true := by simp [cntF, hm]
    have HE := Lib.hid e
    clear e
    go_enter Try.func33, Try.ntmps33
    go_wp2_with (refine wpList_load_row (by rfl) 54 (.tmp 3) (by rfl) (w.heap.size) (by rfl) 54 _ (0, 0) _ (heap_alloc_new w _) Try.underlying54 (by rfl) (by kernel_rfl) ?_)
    refine (is_any' G.o G.e G.m G.g G.c G.s n _).mono ?_
    rintro e' w1 ⟨rfl, hb1⟩
    have HB := Lib.hid hb1
    clear hb1
    go_wp2_with (go_at_call 42; refine (ing_any _ _).mono ?_; rintro e w' ⟨rfl, rfl⟩)
    go_ret
    exact ⟨ret_bo HE.out, ((Below.refl _ _).alloc (Nat.le_refl _) _).trans (HB.out.mono (by simp))⟩

set_option maxRecDepth 100000 in
set_option maxHeartbeats 1600000 in
theorem awake17 (w : World) : Calls Try.prog 29 #[] w fun e w' => e = .returned (.bool true) ∧ Below w.heap.size w w' := by
  obtain ⟨Z, hZ⟩ : ∃ Z : Gp, Z = ⟨0, 0, fun _ => false, fun _ => false, fun _ => 0, 0⟩ := ⟨_, rfl⟩
  obtain ⟨R, hR⟩ : ∃ R : Gp, R = behF Z 2 1 0 0 := ⟨_, rfl⟩
  have r0 : (R.o == 2) = true := by rw [hR, hZ]; decide
  have r1 : (R.e == 1) = true := by rw [hR, hZ]; decide
  have r2 : isM R.m 2 = true := by rw [hR, hZ]; decide
  have hb := fun w => beh_any Z 2 1 0 0 (by rw [hZ]; decide) (by rw [hZ]; decide) (by rw [hZ]; decide) (by rw [hZ]; decide) w
  rw [← hR] at hb
  have hq : ∀ w, Calls Try.prog 31 #[.agg #[.int .i64 0, .int .i64 0, .bool false, .bool false, .bool false, .bool false, .bool false, .bool false, .bool false, .bool false, .bool false, .bool false, .bool false, .bool false, .int .u64 0, .int .u64 0, .int .u64 0, .int .u64 0, .int .u64 0, .int .u64 0, .int .i64 0], .int .i64 2, .int .i64 1, .int .i64 0, .int .u64 0] w fun e' w' => e' = .returned (.agg #[.int .i64 R.o, .int .i64 R.e, .bool (R.m 0), .bool (R.m 1), .bool (R.m 2), .bool (R.m 3), .bool (R.m 4), .bool (R.m 5), .bool (R.g 0), .bool (R.g 1), .bool (R.g 2), .bool (R.g 3), .bool (R.g 4), .bool (R.g 5), .int .u64 (R.c 0), .int .u64 (R.c 1), .int .u64 (R.c 2), .int .u64 (R.c 3), .int .u64 (R.c 4), .int .u64 (R.c 5), .int .i64 R.s]) ∧ Below w.heap.size w w' := fun w => by
    have := hb w
    rw [hZ] at this
    exact this
  have HQ := Lib.hid hq
  clear hb hR hZ hq
  go_enter Try.func29, Try.ntmps29
  go_wp2_with fail
  refine (HQ.out _).mono ?_
  rintro e' w1 ⟨rfl, hb1⟩
  go_wp2_with (first | (refine wpList_load_blk 54 (.tmp 1) (by rfl) (by rfl) w1.heap.size (by rfl) 54 _ (0, 0) _ H2.out Try.underlying54 (by rfl) (by kernel_rfl) ?_) | (refine wpList_store_blk (by rfl) 54 (.tmp 1) _ (by rfl) w1.heap.size (by rfl) _ (by rfl) _ 54 (heap_alloc_new w1 _) (by rfl) (by kernel_rfl) (by simp [Value.oneCell']) w.heap.size w (hb1.alloc hb1.size _) hb1.size ?_; intro w2 H2 hb2 hs2 ho2; have hc0 : w2.cell? ⟨w1.heap.size, 0, none⟩ = some (.int .i64 R.o) := (by rw [cell_blk H2.out]; rfl); have hc1 : w2.cell? ⟨w1.heap.size, 1, none⟩ = some (.int .i64 R.e) := (by rw [cell_blk H2.out]; rfl); clear hs2))
  refine (is_any' R.o R.e R.m R.g R.c R.s 2 _).mono ?_
  rintro e w3 ⟨rfl, hb3⟩
  go_wp2_with fail
  go_ret
  exact ⟨rfl, hb2.trans (hb3.mono hb2.size)⟩
end Go.Proofs.Ytmmaiohnfphcjaa
