/- Contracts of package vector. -/
import Derived.Test.YtmmaiohnfphcjaaVec3
import Derived.RegionTactic
import Derived.BigRegion
import Derived.Deep.QuietTactic
import Derived.BigQuiet
import Derived.WalkSmall
import Derived.WalkLawsBesides
namespace Go.Proofs.Ytmmaiohnfphcjaa
open Go.ChangeShapes Go.WideShapes Go.ChangeAt Go.RowKit



set_option maxRecDepth 100000 in
set_option maxHeartbeats 1600000 in
theorem refGreat_any (a0 a1 a2 a3 a4 a5 b0 b1 b2 b3 b4 b5 : Int) (w : World) :
    Calls Try.prog 24 #[.agg #[.int .u64 a0, .int .u64 a1, .int .u64 a2, .int .u64 a3, .int .u64 a4, .int .u64 a5], .agg #[.int .u64 b0, .int .u64 b1, .int .u64 b2, .int .u64 b3, .int .u64 b4, .int .u64 b5]] w fun e w' =>
      e = .returned (.bool (decide (b0 ≤ a0) && decide (b1 ≤ a1) && decide (b2 ≤ a2) && decide (b3 ≤ a3) && decide (b4 ≤ a4) && decide (b5 ≤ a5))) ∧ Below w.heap.size w w' := by
  go_enter Try.func24, Try.ntmps24
  go_wp2
  obtain ⟨W, hW⟩ : ∃ W : World, W = (w.alloc (.cells #[.int .u64 a0, .int .u64 a1, .int .u64 a2, .int .u64 a3, .int .u64 a4, .int .u64 a5] 36)).alloc (.cells #[.int .u64 b0, .int .u64 b1, .int .u64 b2, .int .u64 b3, .int .u64 b4, .int .u64 b5] 36) := ⟨_, rfl⟩
  have hB : Below w.heap.size w W := by rw [hW]; exact ((Below.refl _ _).alloc (Nat.le_refl _) _).alloc (by simp) _
  have c0 : W.cell? ⟨w.heap.size, 0, none⟩ = some (.int .u64 a0) := by rw [hW]; go_simp
  have c1 : W.cell? ⟨w.heap.size, 1, none⟩ = some (.int .u64 a1) := by rw [hW]; go_simp
  have c2 : W.cell? ⟨w.heap.size, 2, none⟩ = some (.int .u64 a2) := by rw [hW]; go_simp
  have c3 : W.cell? ⟨w.heap.size, 3, none⟩ = some (.int .u64 a3) := by rw [hW]; go_simp
  have c4 : W.cell? ⟨w.heap.size, 4, none⟩ = some (.int .u64 a4) := by rw [hW]; go_simp
  have c5 : W.cell? ⟨w.heap.size, 5, none⟩ = some (.int .u64 a5) := by rw [hW]; go_simp
  have d0 : W.cell? ⟨w.heap.size + 1, 0, none⟩ = some (.int .u64 b0) := by rw [hW]; go_simp
  have d1 : W.cell? ⟨w.heap.size + 1, 1, none⟩ = some (.int .u64 b1) := by rw [hW]; go_simp
  have d2 : W.cell? ⟨w.heap.size + 1, 2, none⟩ = some (.int .u64 b2) := by rw [hW]; go_simp
  have d3 : W.cell? ⟨w.heap.size + 1, 3, none⟩ = some (.int .u64 b3) := by rw [hW]; go_simp
  have d4 : W.cell? ⟨w.heap.size + 1, 4, none⟩ = some (.int .u64 b4) := by rw [hW]; go_simp
  have d5 : W.cell? ⟨w.heap.size + 1, 5, none⟩ = some (.int .u64 b5) := by rw [hW]; go_simp
  rw [← hW]
  clear hW

  go_loopw [4, 5] (fun r i wr => ∃ k n : Nat, k ≤ 6 ∧ i = .int .i64 k ∧ r = .bool false ∧ wr = W.drewN n ∧ Hid ((0 < k → b0 ≤ a0) ∧ (1 < k → b1 ≤ a1) ∧ (2 < k → b2 ≤ a2) ∧ (3 < k → b3 ≤ a3) ∧ (4 < k → b4 ≤ a4) ∧ (5 < k → b5 ≤ a5))) (fun _ i _ => 6 - (intOf i).toNat)
  case atStart => exact ⟨0, 0, by omega, rfl, rfl, rfl, hid ⟨by omega, by omega, by omega, by omega, by omega, by omega⟩⟩
  case round =>
    obtain ⟨k, n, hk, rfl, rfl, rfl, g⟩ := hrel
    rcases (by omega : k = 0 ∨ k = 1 ∨ k = 2 ∨ k = 3 ∨ k = 4 ∨ k = 5 ∨ k = 6) with rfl | rfl | rfl | rfl | rfl | rfl | rfl
    · go_wp2
      go_quiet (fail)
      go_wp2
      · go_ret
        have g' := g.out
        exact ⟨ret_bb (by simp; omega), (by first | exact below_drewN hB _ | exact below_drewN (below_drewN hB _) _)⟩
      · have g' := g.out
        exact ⟨⟨1, _, by omega, rfl, rfl, rfl, hid ⟨by omega, by omega, by omega, by omega, by omega, by omega⟩⟩, by simp [intOf]⟩
    · go_wp2
      go_quiet (fail)
      go_wp2
      · go_ret
        have g' := g.out
        exact ⟨ret_bb (by simp; omega), (by first | exact below_drewN hB _ | exact below_drewN (below_drewN hB _) _)⟩
      · have g' := g.out
        exact ⟨⟨2, _, by omega, rfl, rfl, rfl, hid ⟨by omega, by omega, by omega, by omega, by omega, by omega⟩⟩, by simp [intOf]⟩
    · go_wp2
      go_quiet (fail)
      go_wp2
      · go_ret
        have g' := g.out
        exact ⟨ret_bb (by simp; omega), (by first | exact below_drewN hB _ | exact below_drewN (below_drewN hB _) _)⟩
      · have g' := g.out
        exact ⟨⟨3, _, by omega, rfl, rfl, rfl, hid ⟨by omega, by omega, by omega, by omega, by omega, by omega⟩⟩, by simp [intOf]⟩
    · go_wp2
      go_quiet (fail)
      go_wp2
      · go_ret
        have g' := g.out
        exact ⟨ret_bb (by simp; omega), (by first | exact below_drewN hB _ | exact below_drewN (below_drewN hB _) _)⟩
      · have g' := g.out
        exact ⟨⟨4, _, by omega, rfl, rfl, rfl, hid ⟨by omega, by omega, by omega, by omega, by omega, by omega⟩⟩, by simp [intOf]⟩
    · go_wp2
      go_quiet (fail)
      go_wp2
      · go_ret
        have g' := g.out
        exact ⟨ret_bb (by simp; omega), (by first | exact below_drewN hB _ | exact below_drewN (below_drewN hB _) _)⟩
      · have g' := g.out
        exact ⟨⟨5, _, by omega, rfl, rfl, rfl, hid ⟨by omega, by omega, by omega, by omega, by omega, by omega⟩⟩, by simp [intOf]⟩
    · go_wp2
      go_quiet (fail)
      go_wp2
      · go_ret
        have g' := g.out
        exact ⟨ret_bb (by simp; omega), (by first | exact below_drewN hB _ | exact below_drewN (below_drewN hB _) _)⟩
      · have g' := g.out
        exact ⟨⟨6, _, by omega, rfl, rfl, rfl, hid ⟨by omega, by omega, by omega, by omega, by omega, by omega⟩⟩, by simp [intOf]⟩
    · go_wp2
      go_ret
      have g' := g.out
      exact ⟨ret_bb (by simp; omega), (by first | exact below_drewN hB _ | exact below_drewN (below_drewN hB _) _)⟩

def mt (a : Int) : Int := if a < 1048576 then a else 1048576
theorem mt_bd (a : Int) (h : 0 ≤ a) : 0 ≤ mt a ∧ mt a ≤ 1048576 := by unfold mt; split <;> omega
theorem mt_lt {a : Int} (h : a < 1048576) : mt a = a := by unfold mt; rw [if_pos h]
theorem mt_ge {a : Int} (h : ¬ a < 1048576) : mt a = 1048576 := by unfold mt; rw [if_neg h]

set_option maxRecDepth 100000 in
set_option maxHeartbeats 3200000 in
theorem total_any (a0 a1 a2 a3 a4 a5 : Int) (la0 : 0 ≤ a0) (ua0 : a0 ≤ 18446744073709551615) (la1 : 0 ≤ a1) (ua1 : a1 ≤ 18446744073709551615) (la2 : 0 ≤ a2) (ua2 : a2 ≤ 18446744073709551615) (la3 : 0 ≤ a3) (ua3 : a3 ≤ 18446744073709551615) (la4 : 0 ≤ a4) (ua4 : a4 ≤ 18446744073709551615) (la5 : 0 ≤ a5) (ua5 : a5 ≤ 18446744073709551615) (w : World) :
    Calls Try.prog 25 #[.agg #[.int .u64 a0, .int .u64 a1, .int .u64 a2, .int .u64 a3, .int .u64 a4, .int .u64 a5]] w fun e w' =>
      e = .returned (.int .u64 (mt a0 + mt a1 + mt a2 + mt a3 + mt a4 + mt a5)) ∧ Below w.heap.size w w' := by
  have i0 : ∀ w, (Instr.index 36 (.agg #[.int .u64 a0, .int .u64 a1, .int .u64 a2, .int .u64 a3, .int .u64 a4, .int .u64 a5]) (.int .i64 0)).run Try.prog w = .ok (.int .u64 a0) w := fun _ => by kernel_rfl
  have i1 : ∀ w, (Instr.index 36 (.agg #[.int .u64 a0, .int .u64 a1, .int .u64 a2, .int .u64 a3, .int .u64 a4, .int .u64 a5]) (.int .i64 1)).run Try.prog w = .ok (.int .u64 a1) w := fun _ => by kernel_rfl
  have i2 : ∀ w, (Instr.index 36 (.agg #[.int .u64 a0, .int .u64 a1, .int .u64 a2, .int .u64 a3, .int .u64 a4, .int .u64 a5]) (.int .i64 2)).run Try.prog w = .ok (.int .u64 a2) w := fun _ => by kernel_rfl
  have i3 : ∀ w, (Instr.index 36 (.agg #[.int .u64 a0, .int .u64 a1, .int .u64 a2, .int .u64 a3, .int .u64 a4, .int .u64 a5]) (.int .i64 3)).run Try.prog w = .ok (.int .u64 a3) w := fun _ => by kernel_rfl
  have i4 : ∀ w, (Instr.index 36 (.agg #[.int .u64 a0, .int .u64 a1, .int .u64 a2, .int .u64 a3, .int .u64 a4, .int .u64 a5]) (.int .i64 4)).run Try.prog w = .ok (.int .u64 a4) w := fun _ => by kernel_rfl
  have i5 : ∀ w, (Instr.index 36 (.agg #[.int .u64 a0, .int .u64 a1, .int .u64 a2, .int .u64 a3, .int .u64 a4, .int .u64 a5]) (.int .i64 5)).run Try.prog w = .ok (.int .u64 a5) w := fun _ => by kernel_rfl
  go_enter Try.func25, Try.ntmps25
  go_wp2
  go_loop [3, 5, 7] (fun s _ i => ∃ (k : Nat) (z : Int), k ≤ 6 ∧ i = .int .i64 k ∧ s = .int .u64 z ∧ Hid (z = msum (mt a0) (mt a1) (mt a2) (mt a3) (mt a4) (mt a5) k) ∧ 0 ≤ z ∧ z ≤ 6291456) (fun _ _ i => 6 - (intOf i).toNat)
  case atStart => exact ⟨0, 0, by omega, rfl, rfl, hid rfl, by omega, by omega⟩
  case round =>
    obtain ⟨k, z, hk, rfl, rfl, g, z0, z1⟩ := hrel
    rcases (by omega : k = 0 ∨ k = 1 ∨ k = 2 ∨ k = 3 ∨ k = 4 ∨ k = 5 ∨ k = 6) with rfl | rfl | rfl | rfl | rfl | rfl | rfl
    · have z2 : z ≤ 0 * 1048576 := by
        have g' := g.out
        have m0 := mt_bd a0 la0
        simp only [msum] at g'
        omega
      by_cases h1 : a0 < 1048576
      · go_wp2
        have g' := g.out
        have e' := mt_lt h1
        have m0 := mt_bd a0 la0
        simp only [msum] at g'
        exact ⟨⟨1, _, by omega, rfl, rfl, hid (by simp only [msum]; omega), by omega, by omega⟩, by simp [intOf]⟩
      · go_wp2
        have g' := g.out
        have e' := mt_ge (by omega)
        have m0 := mt_bd a0 la0
        simp only [msum] at g'
        exact ⟨⟨1, _, by omega, rfl, rfl, hid (by simp only [msum]; omega), by omega, by omega⟩, by simp [intOf]⟩
    · have z2 : z ≤ 1 * 1048576 := by
        have g' := g.out
        have m0 := mt_bd a0 la0; have m1 := mt_bd a1 la1
        simp only [msum] at g'
        omega
      by_cases h1 : a1 < 1048576
      · go_wp2
        have g' := g.out
        have e' := mt_lt h1
        have m0 := mt_bd a0 la0; have m1 := mt_bd a1 la1
        simp only [msum] at g'
        exact ⟨⟨2, _, by omega, rfl, rfl, hid (by simp only [msum]; omega), by omega, by omega⟩, by simp [intOf]⟩
      · go_wp2
        have g' := g.out
        have e' := mt_ge (by omega)
        have m0 := mt_bd a0 la0; have m1 := mt_bd a1 la1
        simp only [msum] at g'
        exact ⟨⟨2, _, by omega, rfl, rfl, hid (by simp only [msum]; omega), by omega, by omega⟩, by simp [intOf]⟩
    · have z2 : z ≤ 2 * 1048576 := by
        have g' := g.out
        have m0 := mt_bd a0 la0; have m1 := mt_bd a1 la1; have m2 := mt_bd a2 la2
        simp only [msum] at g'
        omega
      by_cases h1 : a2 < 1048576
      · go_wp2
        have g' := g.out
        have e' := mt_lt h1
        have m0 := mt_bd a0 la0; have m1 := mt_bd a1 la1; have m2 := mt_bd a2 la2
        simp only [msum] at g'
        exact ⟨⟨3, _, by omega, rfl, rfl, hid (by simp only [msum]; omega), by omega, by omega⟩, by simp [intOf]⟩
      · go_wp2
        have g' := g.out
        have e' := mt_ge (by omega)
        have m0 := mt_bd a0 la0; have m1 := mt_bd a1 la1; have m2 := mt_bd a2 la2
        simp only [msum] at g'
        exact ⟨⟨3, _, by omega, rfl, rfl, hid (by simp only [msum]; omega), by omega, by omega⟩, by simp [intOf]⟩
    · have z2 : z ≤ 3 * 1048576 := by
        have g' := g.out
        have m0 := mt_bd a0 la0; have m1 := mt_bd a1 la1; have m2 := mt_bd a2 la2; have m3 := mt_bd a3 la3
        simp only [msum] at g'
        omega
      by_cases h1 : a3 < 1048576
      · go_wp2
        have g' := g.out
        have e' := mt_lt h1
        have m0 := mt_bd a0 la0; have m1 := mt_bd a1 la1; have m2 := mt_bd a2 la2; have m3 := mt_bd a3 la3
        simp only [msum] at g'
        exact ⟨⟨4, _, by omega, rfl, rfl, hid (by simp only [msum]; omega), by omega, by omega⟩, by simp [intOf]⟩
      · go_wp2
        have g' := g.out
        have e' := mt_ge (by omega)
        have m0 := mt_bd a0 la0; have m1 := mt_bd a1 la1; have m2 := mt_bd a2 la2; have m3 := mt_bd a3 la3
        simp only [msum] at g'
        exact ⟨⟨4, _, by omega, rfl, rfl, hid (by simp only [msum]; omega), by omega, by omega⟩, by simp [intOf]⟩
    · have z2 : z ≤ 4 * 1048576 := by
        have g' := g.out
        have m0 := mt_bd a0 la0; have m1 := mt_bd a1 la1; have m2 := mt_bd a2 la2; have m3 := mt_bd a3 la3; have m4 := mt_bd a4 la4
        simp only [msum] at g'
        omega
      by_cases h1 : a4 < 1048576
      · go_wp2
        have g' := g.out
        have e' := mt_lt h1
        have m0 := mt_bd a0 la0; have m1 := mt_bd a1 la1; have m2 := mt_bd a2 la2; have m3 := mt_bd a3 la3; have m4 := mt_bd a4 la4
        simp only [msum] at g'
        exact ⟨⟨5, _, by omega, rfl, rfl, hid (by simp only [msum]; omega), by omega, by omega⟩, by simp [intOf]⟩
      · go_wp2
        have g' := g.out
        have e' := mt_ge (by omega)
        have m0 := mt_bd a0 la0; have m1 := mt_bd a1 la1; have m2 := mt_bd a2 la2; have m3 := mt_bd a3 la3; have m4 := mt_bd a4 la4
        simp only [msum] at g'
        exact ⟨⟨5, _, by omega, rfl, rfl, hid (by simp only [msum]; omega), by omega, by omega⟩, by simp [intOf]⟩
    · have z2 : z ≤ 5 * 1048576 := by
        have g' := g.out
        have m0 := mt_bd a0 la0; have m1 := mt_bd a1 la1; have m2 := mt_bd a2 la2; have m3 := mt_bd a3 la3; have m4 := mt_bd a4 la4; have m5 := mt_bd a5 la5
        simp only [msum] at g'
        omega
      by_cases h1 : a5 < 1048576
      · go_wp2
        have g' := g.out
        have e' := mt_lt h1
        have m0 := mt_bd a0 la0; have m1 := mt_bd a1 la1; have m2 := mt_bd a2 la2; have m3 := mt_bd a3 la3; have m4 := mt_bd a4 la4; have m5 := mt_bd a5 la5
        simp only [msum] at g'
        exact ⟨⟨6, _, by omega, rfl, rfl, hid (by simp only [msum]; omega), by omega, by omega⟩, by simp [intOf]⟩
      · go_wp2
        have g' := g.out
        have e' := mt_ge (by omega)
        have m0 := mt_bd a0 la0; have m1 := mt_bd a1 la1; have m2 := mt_bd a2 la2; have m3 := mt_bd a3 la3; have m4 := mt_bd a4 la4; have m5 := mt_bd a5 la5
        simp only [msum] at g'
        exact ⟨⟨6, _, by omega, rfl, rfl, hid (by simp only [msum]; omega), by omega, by omega⟩, by simp [intOf]⟩
    · go_wp2
      go_ret
      have g' := g.out
      simp only [msum] at g'
      exact ⟨ret_i g'.symm, (Below.refl _ _).alloc (Nat.le_refl _) _⟩

set_option maxRecDepth 100000 in
set_option maxHeartbeats 1600000 in
theorem awake14 (w : World) : Calls Try.prog 22 #[] w fun e w' => e = .returned (.bool true) ∧ Below w.heap.size w w' := by
  have e1 : md 0 1 = 1 := by decide
  have e2 : md 0 2 = 2 := by decide
  have e3 : md 0 0 = 0 := by decide
  go_enter Try.func22, Try.ntmps22
  go_wp2_with (first | (go_at_call 23; refine (missing_any _ _ _ _ _ _ _ _ _ _ _ _ (by omega) (by omega) (by omega) (by omega) (by omega) (by omega) (by omega) (by omega) (by omega) (by omega) (by omega) (by omega) (by omega) (by omega) (by omega) (by omega) (by omega) (by omega) (by omega) (by omega) (by omega) (by omega) (by omega) (by omega) _).mono ?_; rintro e w1 ⟨rfl, hb1⟩) | (go_at_call 21; refine (great_any _ _ _ _ _ _ _ _ _ _ _ _ _).mono ?_; rintro e w2 ⟨rfl, hb2⟩))
  go_ret
  exact ⟨rfl, hb1.trans (hb2.mono hb1.size)⟩
end Go.Proofs.Ytmmaiohnfphcjaa
