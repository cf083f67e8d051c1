/- Contracts of package vector. -/
import Derived.Test.YtmmaiohnfphcjaaVec
import Derived.LoopN
import Derived.RegionTactic
import Derived.BigRegion
import Derived.Deep.QuietTactic
import Derived.BigQuiet
import Derived.WalkSmall
import Derived.WalkLawsBesides
namespace Go.Proofs.Ytmmaiohnfphcjaa
open Go.ChangeShapes Go.WideShapes Go.ChangeAt Go.RowKit


theorem ret_i {p : IntKind} {a a' : Int} (h : a' = a) : Ending.returned (.int p a) = Ending.returned (.int p a') := by rw [h]

def md (a b : Int) : Int := if a < b then (if b - a < 1099511627776 then b - a else 1099511627776) else 0
theorem md_bd (a b : Int) : 0 ≤ md a b ∧ md a b ≤ 1099511627776 := by unfold md; split <;> (try split) <;> omega
theorem md_no {a b : Int} (h : b ≤ a) : md a b = 0 := by unfold md; rw [if_neg (by omega)]
theorem md_lt {a b : Int} (h : a < b) (h2 : b - a < 1099511627776) : md a b = b - a := by unfold md; rw [if_pos h, if_pos h2]
theorem md_ge {a b : Int} (h : a < b) (h2 : ¬ b - a < 1099511627776) : md a b = 1099511627776 := by unfold md; rw [if_pos h, if_neg h2]
def msum (x0 : Int) (x1 : Int) (x2 : Int) (x3 : Int) (x4 : Int) (x5 : Int) : Nat → Int | 0 => 0 | 1 => x0 | 2 => x0 + x1 | 3 => x0 + x1 + x2 | 4 => x0 + x1 + x2 + x3 | 5 => x0 + x1 + x2 + x3 + x4 | 6 => x0 + x1 + x2 + x3 + x4 + x5 | _ => 0

set_option maxRecDepth 100000 in
set_option maxHeartbeats 3200000 in
theorem missing_any (a0 a1 a2 a3 a4 a5 b0 b1 b2 b3 b4 b5 : Int) (la0 : 0 ≤ a0) (ua0 : a0 ≤ 18446744073709551615) (la1 : 0 ≤ a1) (ua1 : a1 ≤ 18446744073709551615) (la2 : 0 ≤ a2) (ua2 : a2 ≤ 18446744073709551615) (la3 : 0 ≤ a3) (ua3 : a3 ≤ 18446744073709551615) (la4 : 0 ≤ a4) (ua4 : a4 ≤ 18446744073709551615) (la5 : 0 ≤ a5) (ua5 : a5 ≤ 18446744073709551615) (lb0 : 0 ≤ b0) (ub0 : b0 ≤ 18446744073709551615) (lb1 : 0 ≤ b1) (ub1 : b1 ≤ 18446744073709551615) (lb2 : 0 ≤ b2) (ub2 : b2 ≤ 18446744073709551615) (lb3 : 0 ≤ b3) (ub3 : b3 ≤ 18446744073709551615) (lb4 : 0 ≤ b4) (ub4 : b4 ≤ 18446744073709551615) (lb5 : 0 ≤ b5) (ub5 : b5 ≤ 18446744073709551615) (w : World) :
    Calls Try.prog 23 #[.agg #[.int .u64 a0, .int .u64 a1, .int .u64 a2, .int .u64 a3, .int .u64 a4, .int .u64 a5], .agg #[.int .u64 b0, .int .u64 b1, .int .u64 b2, .int .u64 b3, .int .u64 b4, .int .u64 b5]] w fun e w' =>
      e = .returned (.int .u64 (md a0 b0 + md a1 b1 + md a2 b2 + md a3 b3 + md a4 b4 + md a5 b5)) ∧ Below w.heap.size w w' := by
  go_enter Try.func23, Try.ntmps23
  go_wp2
  obtain ⟨W, hW⟩ : ∃ W : World, W = (w.alloc (.cells #[.int .u64 a0, .int .u64 a1, .int .u64 a2, .int .u64 a3, .int .u64 a4, .int .u64 a5] 36)).alloc (.cells #[.int .u64 b0, .int .u64 b1, .int .u64 b2, .int .u64 b3, .int .u64 b4, .int .u64 b5] 36) := ⟨_, rfl⟩
  have hB : Below w.heap.size w W := by rw [hW]; exact ((Below.refl _ _).alloc (Nat.le_refl _) _).alloc (by simp) _
  have c0 : W.cell? ⟨w.heap.size, 0, none⟩ = some (.int .u64 a0) := by rw [hW]; go_simp
  have c1 : W.cell? ⟨w.heap.size, 1, none⟩ = some (.int .u64 a1) := by rw [hW]; go_simp
  have c2 : W.cell? ⟨w.heap.size, 2, none⟩ = some (.int .u64 a2) := by rw [hW]; go_simp
  have c3 : W.cell? ⟨w.heap.size, 3, none⟩ = some (.int .u64 a3) := by rw [hW]; go_simp
  have c4 : W.cell? ⟨w.heap.size, 4, none⟩ = some (.int .u64 a4) := by rw [hW]; go_simp
  have c5 : W.cell? ⟨w.heap.size, 5, none⟩ = some (.int .u64 a5) := by rw [hW]; go_simp
  have d0 : W.cell? ⟨w.heap.size + 1, 0, none⟩ = some (.int .u64 b0) := by rw [hW]; go_simp
  have d1 : W.cell? ⟨w.heap.size + 1, 1, none⟩ = some (.int .u64 b1) := by rw [hW]; go_simp
  have d2 : W.cell? ⟨w.heap.size + 1, 2, none⟩ = some (.int .u64 b2) := by rw [hW]; go_simp
  have d3 : W.cell? ⟨w.heap.size + 1, 3, none⟩ = some (.int .u64 b3) := by rw [hW]; go_simp
  have d4 : W.cell? ⟨w.heap.size + 1, 4, none⟩ = some (.int .u64 b4) := by rw [hW]; go_simp
  have d5 : W.cell? ⟨w.heap.size + 1, 5, none⟩ = some (.int .u64 b5) := by rw [hW]; go_simp
  rw [← hW]
  clear hW

  go_loopw [5, 6, 7] (fun s _ i wr => ∃ (k n : Nat) (z : Int), k ≤ 6 ∧ i = .int .i64 k ∧ s = .int .u64 z ∧ wr = W.drewN n ∧ Hid (z = msum (md a0 b0) (md a1 b1) (md a2 b2) (md a3 b3) (md a4 b4) (md a5 b5) k) ∧ 0 ≤ z ∧ z ≤ 6597069766656) (fun _ _ i _ => 6 - (intOf i).toNat)
  case atStart => exact ⟨0, 0, 0, by omega, rfl, rfl, rfl, hid rfl, by omega, by omega⟩
  case round =>
    obtain ⟨k, n, z, hk, rfl, rfl, rfl, g, z0, z1⟩ := hrel
    rcases (by omega : k = 0 ∨ k = 1 ∨ k = 2 ∨ k = 3 ∨ k = 4 ∨ k = 5 ∨ k = 6) with rfl | rfl | rfl | rfl | rfl | rfl | rfl
    · have z2 : z ≤ 0 * 1099511627776 := by
        have g' := g.out
        have m0 := md_bd a0 b0
        simp only [msum] at g'
        omega
      by_cases h1 : a0 < b0
      · by_cases h2 : b0 - a0 < 1099511627776
        · go_wp2
          go_quiet (fail)
          go_wp2
          go_region
          go_wp2
          have g' := g.out
          have e' := md_lt h1 h2
          have m0 := md_bd a0 b0
          simp only [msum] at g'
          exact ⟨⟨1, _, _, by omega, rfl, rfl, rfl, hid (by simp only [msum]; omega), by omega, by omega⟩, by simp [intOf]⟩
        · go_wp2
          go_quiet (fail)
          go_wp2
          go_region
          go_wp2
          have g' := g.out
          have e' := md_ge h1 (by omega)
          have m0 := md_bd a0 b0
          simp only [msum] at g'
          exact ⟨⟨1, _, _, by omega, rfl, rfl, rfl, hid (by simp only [msum]; omega), by omega, by omega⟩, by simp [intOf]⟩
      · have h1' : b0 ≤ a0 := by omega
        · go_wp2
          go_quiet (fail)
          go_wp2
          have g' := g.out
          have e' := md_no h1'
          have m0 := md_bd a0 b0
          simp only [msum] at g'
          exact ⟨⟨1, _, _, by omega, rfl, rfl, rfl, hid (by simp only [msum]; omega), by omega, by omega⟩, by simp [intOf]⟩
    · have z2 : z ≤ 1 * 1099511627776 := by
        have g' := g.out
        have m0 := md_bd a0 b0; have m1 := md_bd a1 b1
        simp only [msum] at g'
        omega
      by_cases h1 : a1 < b1
      · by_cases h2 : b1 - a1 < 1099511627776
        · go_wp2
          go_quiet (fail)
          go_wp2
          go_region
          go_wp2
          have g' := g.out
          have e' := md_lt h1 h2
          have m0 := md_bd a0 b0; have m1 := md_bd a1 b1
          simp only [msum] at g'
          exact ⟨⟨2, _, _, by omega, rfl, rfl, rfl, hid (by simp only [msum]; omega), by omega, by omega⟩, by simp [intOf]⟩
        · go_wp2
          go_quiet (fail)
          go_wp2
          go_region
          go_wp2
          have g' := g.out
          have e' := md_ge h1 (by omega)
          have m0 := md_bd a0 b0; have m1 := md_bd a1 b1
          simp only [msum] at g'
          exact ⟨⟨2, _, _, by omega, rfl, rfl, rfl, hid (by simp only [msum]; omega), by omega, by omega⟩, by simp [intOf]⟩
      · have h1' : b1 ≤ a1 := by omega
        · go_wp2
          go_quiet (fail)
          go_wp2
          have g' := g.out
          have e' := md_no h1'
          have m0 := md_bd a0 b0; have m1 := md_bd a1 b1
          simp only [msum] at g'
          exact ⟨⟨2, _, _, by omega, rfl, rfl, rfl, hid (by simp only [msum]; omega), by omega, by omega⟩, by simp [intOf]⟩
    · have z2 : z ≤ 2 * 1099511627776 := by
        have g' := g.out
        have m0 := md_bd a0 b0; have m1 := md_bd a1 b1; have m2 := md_bd a2 b2
        simp only [msum] at g'
        omega
      by_cases h1 : a2 < b2
      · by_cases h2 : b2 - a2 < 1099511627776
        · go_wp2
          go_quiet (fail)
          go_wp2
          go_region
          go_wp2
          have g' := g.out
          have e' := md_lt h1 h2
          have m0 := md_bd a0 b0; have m1 := md_bd a1 b1; have m2 := md_bd a2 b2
          simp only [msum] at g'
          exact ⟨⟨3, _, _, by omega, rfl, rfl, rfl, hid (by simp only [msum]; omega), by omega, by omega⟩, by simp [intOf]⟩
        · go_wp2
          go_quiet (fail)
          go_wp2
          go_region
          go_wp2
          have g' := g.out
          have e' := md_ge h1 (by omega)
          have m0 := md_bd a0 b0; have m1 := md_bd a1 b1; have m2 := md_bd a2 b2
          simp only [msum] at g'
          exact ⟨⟨3, _, _, by omega, rfl, rfl, rfl, hid (by simp only [msum]; omega), by omega, by omega⟩, by simp [intOf]⟩
      · have h1' : b2 ≤ a2 := by omega
        · go_wp2
          go_quiet (fail)
          go_wp2
          have g' := g.out
          have e' := md_no h1'
          have m0 := md_bd a0 b0; have m1 := md_bd a1 b1; have m2 := md_bd a2 b2
          simp only [msum] at g'
          exact ⟨⟨3, _, _, by omega, rfl, rfl, rfl, hid (by simp only [msum]; omega), by omega, by omega⟩, by simp [intOf]⟩
    · have z2 : z ≤ 3 * 1099511627776 := by
        have g' := g.out
        have m0 := md_bd a0 b0; have m1 := md_bd a1 b1; have m2 := md_bd a2 b2; have m3 := md_bd a3 b3
        simp only [msum] at g'
        omega
      by_cases h1 : a3 < b3
      · by_cases h2 : b3 - a3 < 1099511627776
        · go_wp2
          go_quiet (fail)
          go_wp2
          go_region
          go_wp2
          have g' := g.out
          have e' := md_lt h1 h2
          have m0 := md_bd a0 b0; have m1 := md_bd a1 b1; have m2 := md_bd a2 b2; have m3 := md_bd a3 b3
          simp only [msum] at g'
          exact ⟨⟨4, _, _, by omega, rfl, rfl, rfl, hid (by simp only [msum]; omega), by omega, by omega⟩, by simp [intOf]⟩
        · go_wp2
          go_quiet (fail)
          go_wp2
          go_region
          go_wp2
          have g' := g.out
          have e' := md_ge h1 (by omega)
          have m0 := md_bd a0 b0; have m1 := md_bd a1 b1; have m2 := md_bd a2 b2; have m3 := md_bd a3 b3
          simp only [msum] at g'
          exact ⟨⟨4, _, _, by omega, rfl, rfl, rfl, hid (by simp only [msum]; omega), by omega, by omega⟩, by simp [intOf]⟩
      · have h1' : b3 ≤ a3 := by omega
        · go_wp2
          go_quiet (fail)
          go_wp2
          have g' := g.out
          have e' := md_no h1'
          have m0 := md_bd a0 b0; have m1 := md_bd a1 b1; have m2 := md_bd a2 b2; have m3 := md_bd a3 b3
          simp only [msum] at g'
          exact ⟨⟨4, _, _, by omega, rfl, rfl, rfl, hid (by simp only [msum]; omega), by omega, by omega⟩, by simp [intOf]⟩
    · have z2 : z ≤ 4 * 1099511627776 := by
        have g' := g.out
        have m0 := md_bd a0 b0; have m1 := md_bd a1 b1; have m2 := md_bd a2 b2; have m3 := md_bd a3 b3; have m4 := md_bd a4 b4
        simp only [msum] at g'
        omega
      by_cases h1 : a4 < b4
      · by_cases h2 : b4 - a4 < 1099511627776
        · go_wp2
          go_quiet (fail)
          go_wp2
          go_region
          go_wp2
          have g' := g.out
          have e' := md_lt h1 h2
          have m0 := md_bd a0 b0; have m1 := md_bd a1 b1; have m2 := md_bd a2 b2; have m3 := md_bd a3 b3; have m4 := md_bd a4 b4
          simp only [msum] at g'
          exact ⟨⟨5, _, _, by omega, rfl, rfl, rfl, hid (by simp only [msum]; omega), by omega, by omega⟩, by simp [intOf]⟩
        · go_wp2
          go_quiet (fail)
          go_wp2
          go_region
          go_wp2
          have g' := g.out
          have e' := md_ge h1 (by omega)
          have m0 := md_bd a0 b0; have m1 := md_bd a1 b1; have m2 := md_bd a2 b2; have m3 := md_bd a3 b3; have m4 := md_bd a4 b4
          simp only [msum] at g'
          exact ⟨⟨5, _, _, by omega, rfl, rfl, rfl, hid (by simp only [msum]; omega), by omega, by omega⟩, by simp [intOf]⟩
      · have h1' : b4 ≤ a4 := by omega
        · go_wp2
          go_quiet (fail)
          go_wp2
          have g' := g.out
          have e' := md_no h1'
          have m0 := md_bd a0 b0; have m1 := md_bd a1 b1; have m2 := md_bd a2 b2; have m3 := md_bd a3 b3; have m4 := md_bd a4 b4
          simp only [msum] at g'
          exact ⟨⟨5, _, _, by omega, rfl, rfl, rfl, hid (by simp only [msum]; omega), by omega, by omega⟩, by simp [intOf]⟩
    · have z2 : z ≤ 5 * 1099511627776 := by
        have g' := g.out
        have m0 := md_bd a0 b0; have m1 := md_bd a1 b1; have m2 := md_bd a2 b2; have m3 := md_bd a3 b3; have m4 := md_bd a4 b4; have m5 := md_bd a5 b5
        simp only [msum] at g'
        omega
      by_cases h1 : a5 < b5
      · by_cases h2 : b5 - a5 < 1099511627776
        · go_wp2
          go_quiet (fail)
          go_wp2
          go_region
          go_wp2
          have g' := g.out
          have e' := md_lt h1 h2
          have m0 := md_bd a0 b0; have m1 := md_bd a1 b1; have m2 := md_bd a2 b2; have m3 := md_bd a3 b3; have m4 := md_bd a4 b4; have m5 := md_bd a5 b5
          simp only [msum] at g'
          exact ⟨⟨6, _, _, by omega, rfl, rfl, rfl, hid (by simp only [msum]; omega), by omega, by omega⟩, by simp [intOf]⟩
        · go_wp2
          go_quiet (fail)
          go_wp2
          go_region
          go_wp2
          have g' := g.out
          have e' := md_ge h1 (by omega)
          have m0 := md_bd a0 b0; have m1 := md_bd a1 b1; have m2 := md_bd a2 b2; have m3 := md_bd a3 b3; have m4 := md_bd a4 b4; have m5 := md_bd a5 b5
          simp only [msum] at g'
          exact ⟨⟨6, _, _, by omega, rfl, rfl, rfl, hid (by simp only [msum]; omega), by omega, by omega⟩, by simp [intOf]⟩
      · have h1' : b5 ≤ a5 := by omega
        · go_wp2
          go_quiet (fail)
          go_wp2
          have g' := g.out
          have e' := md_no h1'
          have m0 := md_bd a0 b0; have m1 := md_bd a1 b1; have m2 := md_bd a2 b2; have m3 := md_bd a3 b3; have m4 := md_bd a4 b4; have m5 := md_bd a5 b5
          simp only [msum] at g'
          exact ⟨⟨6, _, _, by omega, rfl, rfl, rfl, hid (by simp only [msum]; omega), by omega, by omega⟩, by simp [intOf]⟩
    · go_wp2
      go_ret
      have g' := g.out
      simp only [msum] at g'
      exact ⟨ret_i g'.symm, by first | exact below_drewN hB _ | exact below_drewN (below_drewN hB _) _⟩
end Go.Proofs.Ytmmaiohnfphcjaa
