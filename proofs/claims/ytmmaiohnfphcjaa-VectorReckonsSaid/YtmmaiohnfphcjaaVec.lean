/- Contracts of package vector. -/
import Derived.Test.YtmmaiohnfphcjaaRead
import Derived.RegionTactic
import Derived.BigRegion
import Derived.Deep.QuietTactic
import Derived.BigQuiet
import Derived.WalkSmall
import Derived.WalkLawsBesides
namespace Go.Proofs.Ytmmaiohnfphcjaa
open Go.ChangeShapes Go.WideShapes Go.ChangeAt Go.RowKit

theorem ret_bb {b c : Bool} (h : c = b) : Ending.returned (.bool b) = Ending.returned (.bool c) := by rw [h]
theorem hid {p : Prop} (h : p) : Hid p := h

set_option maxRecDepth 100000 in
set_option maxHeartbeats 1600000 in
theorem great_any (a0 a1 a2 a3 a4 a5 b0 b1 b2 b3 b4 b5 : Int) (w : World) :
    Calls Try.prog 21 #[.agg #[.int .u64 a0, .int .u64 a1, .int .u64 a2, .int .u64 a3, .int .u64 a4, .int .u64 a5], .agg #[.int .u64 b0, .int .u64 b1, .int .u64 b2, .int .u64 b3, .int .u64 b4, .int .u64 b5]] w fun e w' =>
      e = .returned (.bool (decide (b0 ≤ a0) && decide (b1 ≤ a1) && decide (b2 ≤ a2) && decide (b3 ≤ a3) && decide (b4 ≤ a4) && decide (b5 ≤ a5))) ∧ Below w.heap.size w w' := by
  go_enter Try.func21, Try.ntmps21
  go_wp2
  obtain ⟨W, hW⟩ : ∃ W : World, W = (w.alloc (.cells #[.int .u64 a0, .int .u64 a1, .int .u64 a2, .int .u64 a3, .int .u64 a4, .int .u64 a5] 36)).alloc (.cells #[.int .u64 b0, .int .u64 b1, .int .u64 b2, .int .u64 b3, .int .u64 b4, .int .u64 b5] 36) := ⟨_, rfl⟩
  have hB : Below w.heap.size w W := by rw [hW]; exact ((Below.refl _ _).alloc (Nat.le_refl _) _).alloc (by simp) _
  have c0 : W.cell? ⟨w.heap.size, 0, none⟩ = some (.int .u64 a0) := by rw [hW]; go_simp
  have c1 : W.cell? ⟨w.heap.size, 1, none⟩ = some (.int .u64 a1) := by rw [hW]; go_simp
  have c2 : W.cell? ⟨w.heap.size, 2, none⟩ = some (.int .u64 a2) := by rw [hW]; go_simp
  have c3 : W.cell? ⟨w.heap.size, 3, none⟩ = some (.int .u64 a3) := by rw [hW]; go_simp
  have c4 : W.cell? ⟨w.heap.size, 4, none⟩ = some (.int .u64 a4) := by rw [hW]; go_simp
  have c5 : W.cell? ⟨w.heap.size, 5, none⟩ = some (.int .u64 a5) := by rw [hW]; go_simp
  have d0 : W.cell? ⟨w.heap.size + 1, 0, none⟩ = some (.int .u64 b0) := by rw [hW]; go_simp
  have d1 : W.cell? ⟨w.heap.size + 1, 1, none⟩ = some (.int .u64 b1) := by rw [hW]; go_simp
  have d2 : W.cell? ⟨w.heap.size + 1, 2, none⟩ = some (.int .u64 b2) := by rw [hW]; go_simp
  have d3 : W.cell? ⟨w.heap.size + 1, 3, none⟩ = some (.int .u64 b3) := by rw [hW]; go_simp
  have d4 : W.cell? ⟨w.heap.size + 1, 4, none⟩ = some (.int .u64 b4) := by rw [hW]; go_simp
  have d5 : W.cell? ⟨w.heap.size + 1, 5, none⟩ = some (.int .u64 b5) := by rw [hW]; go_simp
  rw [← hW]
  clear hW

  go_loopw [4, 5, 6] (fun r _ i wr => ∃ k n : Nat, k ≤ 6 ∧ i = .int .i64 k ∧ r = .bool false ∧ wr = W.drewN n ∧ Hid ((0 < k → b0 ≤ a0) ∧ (1 < k → b1 ≤ a1) ∧ (2 < k → b2 ≤ a2) ∧ (3 < k → b3 ≤ a3) ∧ (4 < k → b4 ≤ a4) ∧ (5 < k → b5 ≤ a5))) (fun _ _ i _ => 6 - (intOf i).toNat)
  case atStart => exact ⟨0, 0, by omega, rfl, rfl, rfl, hid ⟨by omega, by omega, by omega, by omega, by omega, by omega⟩⟩
  case round =>
    obtain ⟨k, n, hk, rfl, rfl, rfl, g⟩ := hrel
    rcases (by omega : k = 0 ∨ k = 1 ∨ k = 2 ∨ k = 3 ∨ k = 4 ∨ k = 5 ∨ k = 6) with rfl | rfl | rfl | rfl | rfl | rfl | rfl
    · go_wp2
      go_quiet (fail)
      go_wp2
      · go_ret
        have g' := g.out
        exact ⟨ret_bb (by simp; omega), (by first | exact below_drewN hB _ | exact below_drewN (below_drewN hB _) _)⟩
      · have g' := g.out
        exact ⟨⟨1, _, by omega, rfl, rfl, rfl, hid ⟨by omega, by omega, by omega, by omega, by omega, by omega⟩⟩, by simp [intOf]⟩
    · go_wp2
      go_quiet (fail)
      go_wp2
      · go_ret
        have g' := g.out
        exact ⟨ret_bb (by simp; omega), (by first | exact below_drewN hB _ | exact below_drewN (below_drewN hB _) _)⟩
      · have g' := g.out
        exact ⟨⟨2, _, by omega, rfl, rfl, rfl, hid ⟨by omega, by omega, by omega, by omega, by omega, by omega⟩⟩, by simp [intOf]⟩
    · go_wp2
      go_quiet (fail)
      go_wp2
      · go_ret
        have g' := g.out
        exact ⟨ret_bb (by simp; omega), (by first | exact below_drewN hB _ | exact below_drewN (below_drewN hB _) _)⟩
      · have g' := g.out
        exact ⟨⟨3, _, by omega, rfl, rfl, rfl, hid ⟨by omega, by omega, by omega, by omega, by omega, by omega⟩⟩, by simp [intOf]⟩
    · go_wp2
      go_quiet (fail)
      go_wp2
      · go_ret
        have g' := g.out
        exact ⟨ret_bb (by simp; omega), (by first | exact below_drewN hB _ | exact below_drewN (below_drewN hB _) _)⟩
      · have g' := g.out
        exact ⟨⟨4, _, by omega, rfl, rfl, rfl, hid ⟨by omega, by omega, by omega, by omega, by omega, by omega⟩⟩, by simp [intOf]⟩
    · go_wp2
      go_quiet (fail)
      go_wp2
      · go_ret
        have g' := g.out
        exact ⟨ret_bb (by simp; omega), (by first | exact below_drewN hB _ | exact below_drewN (below_drewN hB _) _)⟩
      · have g' := g.out
        exact ⟨⟨5, _, by omega, rfl, rfl, rfl, hid ⟨by omega, by omega, by omega, by omega, by omega, by omega⟩⟩, by simp [intOf]⟩
    · go_wp2
      go_quiet (fail)
      go_wp2
      · go_ret
        have g' := g.out
        exact ⟨ret_bb (by simp; omega), (by first | exact below_drewN hB _ | exact below_drewN (below_drewN hB _) _)⟩
      · have g' := g.out
        exact ⟨⟨6, _, by omega, rfl, rfl, rfl, hid ⟨by omega, by omega, by omega, by omega, by omega, by omega⟩⟩, by simp [intOf]⟩
    · go_wp2
      go_ret
      have g' := g.out
      exact ⟨ret_bb (by simp; omega), (by first | exact below_drewN hB _ | exact below_drewN (below_drewN hB _) _)⟩
end Go.Proofs.Ytmmaiohnfphcjaa
