/- Contracts of package vector. -/
import Derived.Test.YtmmaiohnfphcjaaVec2
import Derived.Test.YtmmaiohnfphcjaaVec4
import Derived.Test.YtmmaiohnfphcjaaU
import Derived.Test.YtmmaiohnfphcjaaEq
import Derived.RegionTactic
import Derived.BigRegion
import Derived.Deep.QuietTactic
import Derived.BigQuiet
import Derived.WalkSmall
import Derived.Deep.RegionHeld3
import Derived.Deep.DeepCutAuto
import Derived.Deep.DrawnRows
import Derived.WalkLawsBesides
namespace Go.Proofs.Ytmmaiohnfphcjaa
open Go.ChangeShapes Go.WideShapes Go.ChangeAt Go.RowKit


def gr (a0 a1 a2 a3 a4 a5 b0 b1 b2 b3 b4 b5 : Int) : Bool := decide (b0 ≤ a0) && decide (b1 ≤ a1) && decide (b2 ≤ a2) && decide (b3 ≤ a3) && decide (b4 ≤ a4) && decide (b5 ≤ a5)
theorem great_g (a0 a1 a2 a3 a4 a5 b0 b1 b2 b3 b4 b5 : Int) (w : World) :
    Calls Try.prog 21 #[.agg #[.int .u64 a0, .int .u64 a1, .int .u64 a2, .int .u64 a3, .int .u64 a4, .int .u64 a5], .agg #[.int .u64 b0, .int .u64 b1, .int .u64 b2, .int .u64 b3, .int .u64 b4, .int .u64 b5]] w fun e w' => e = .returned (.bool (gr a0 a1 a2 a3 a4 a5 b0 b1 b2 b3 b4 b5)) ∧ Below w.heap.size w w' := great_any _ _ _ _ _ _ _ _ _ _ _ _ _

theorem bcell {B : Nat} {W w1 : World} (hb : Below B W w1) : (∀ b o, b < B → w1.cell? ⟨b, o, none⟩ = W.cell? ⟨b, o, none⟩) ∧ (∀ b o, b < B → w1.frozen? ⟨b, o, none⟩ = W.frozen? ⟨b, o, none⟩) :=
  ⟨fun b o h => hb.cell (p := ⟨b, o, none⟩) h, fun b o h => hb.frozen (p := ⟨b, o, none⟩) h⟩

theorem has_follows : Try.prog.follows .mixedOrders = true := by kernel_rfl

attribute [local go_sem ↓] Go.wp_at_zero Go.wp_at_succ
set_option maxRecDepth 100000 in
set_option maxHeartbeats 40000000 in
theorem joins_raw (a0 a1 a2 a3 a4 a5 b0 b1 b2 b3 b4 b5 c0 c1 c2 c3 c4 c5 j0 j1 j2 j3 j4 j5 m0 m1 m2 m3 m4 m5 : Int) (la0 : 0 ≤ a0) (ua0 : a0 ≤ 18446744073709551615) (la1 : 0 ≤ a1) (ua1 : a1 ≤ 18446744073709551615) (la2 : 0 ≤ a2) (ua2 : a2 ≤ 18446744073709551615) (la3 : 0 ≤ a3) (ua3 : a3 ≤ 18446744073709551615) (la4 : 0 ≤ a4) (ua4 : a4 ≤ 18446744073709551615) (la5 : 0 ≤ a5) (ua5 : a5 ≤ 18446744073709551615) (hj0 : (if a0 < b0 then b0 else a0) = j0) (hj1 : (if a1 < b1 then b1 else a1) = j1) (hj2 : (if a2 < b2 then b2 else a2) = j2) (hj3 : (if a3 < b3 then b3 else a3) = j3) (hj4 : (if a4 < b4 then b4 else a4) = j4) (hj5 : (if a5 < b5 then b5 else a5) = j5) (hm0 : (if b0 < a0 then b0 else a0) = m0) (hm1 : (if b1 < a1 then b1 else a1) = m1) (hm2 : (if b2 < a2 then b2 else a2) = m2) (hm3 : (if b3 < a3 then b3 else a3) = m3) (hm4 : (if b4 < a4 then b4 else a4) = m4) (hm5 : (if b5 < a5 then b5 else a5) = m5) (hk0 : (if b0 < a0 then a0 else b0) = j0) (hk1 : (if b1 < a1 then a1 else b1) = j1) (hk2 : (if b2 < a2 then a2 else b2) = j2) (hk3 : (if b3 < a3 then a3 else b3) = j3) (hk4 : (if b4 < a4 then a4 else b4) = j4) (hk5 : (if b5 < a5 then a5 else b5) = j5)
    (g1 : gr j0 j1 j2 j3 j4 j5 a0 a1 a2 a3 a4 a5 = true) (g2 : gr j0 j1 j2 j3 j4 j5 b0 b1 b2 b3 b4 b5 = true) (g3 : gr a0 a1 a2 a3 a4 a5 m0 m1 m2 m3 m4 m5 = true) (g4 : gr b0 b1 b2 b3 b4 b5 m0 m1 m2 m3 m4 m5 = true) (x y : Bool) (g5 : gr c0 c1 c2 c3 c4 c5 a0 a1 a2 a3 a4 a5 = x) (g6 : gr c0 c1 c2 c3 c4 c5 b0 b1 b2 b3 b4 b5 = y) (g7 : gr c0 c1 c2 c3 c4 c5 j0 j1 j2 j3 j4 j5 = (x && y))
    (z0 : md j0 a0 = 0) (z1 : md j1 a1 = 0) (z2 : md j2 a2 = 0) (z3 : md j3 a3 = 0) (z4 : md j4 a4 = 0) (z5 : md j5 a5 = 0) (lj0 : 0 ≤ j0) (uj0 : j0 ≤ 18446744073709551615) (lj1 : 0 ≤ j1) (uj1 : j1 ≤ 18446744073709551615) (lj2 : 0 ≤ j2) (uj2 : j2 ≤ 18446744073709551615) (lj3 : 0 ≤ j3) (uj3 : j3 ≤ 18446744073709551615) (lj4 : 0 ≤ j4) (uj4 : j4 ≤ 18446744073709551615) (lj5 : 0 ≤ j5) (uj5 : j5 ≤ 18446744073709551615) (w : World) :
    Calls Try.prog 6 #[.agg #[.int .u64 a0, .int .u64 a1, .int .u64 a2, .int .u64 a3, .int .u64 a4, .int .u64 a5], .agg #[.int .u64 b0, .int .u64 b1, .int .u64 b2, .int .u64 b3, .int .u64 b4, .int .u64 b5], .agg #[.int .u64 c0, .int .u64 c1, .int .u64 c2, .int .u64 c3, .int .u64 c4, .int .u64 c5]] w fun e w' =>
      e = .returned (.bool true) ∧ Below w.heap.size w w' := by
  have HJ := hid (And.intro hj0 (And.intro hj1 (And.intro hj2 (And.intro hj3 (And.intro hj4 hj5)))))
  have HM := hid (And.intro hm0 (And.intro hm1 (And.intro hm2 (And.intro hm3 (And.intro hm4 hm5)))))
  have HK := hid (And.intro hk0 (And.intro hk1 (And.intro hk2 (And.intro hk3 (And.intro hk4 hk5)))))
  have HL := hid (And.intro (And.intro la0 (And.intro la1 (And.intro la2 (And.intro la3 (And.intro la4 la5))))) (And.intro (And.intro ua0 (And.intro ua1 (And.intro ua2 (And.intro ua3 (And.intro ua4 ua5))))) (And.intro (And.intro lj0 (And.intro lj1 (And.intro lj2 (And.intro lj3 (And.intro lj4 lj5))))) (And.intro uj0 (And.intro uj1 (And.intro uj2 (And.intro uj3 (And.intro uj4 uj5))))))))
  have b1 := HL.out.1
  clear b1
  clear hj0 hj1 hj2 hj3 hj4 hj5 hm0 hm1 hm2 hm3 hm4 hm5 hk0 hk1 hk2 hk3 hk4 hk5 la0 ua0 lj0 uj0 la1 ua1 lj1 uj1 la2 ua2 lj2 uj2 la3 ua3 lj3 uj3 la4 ua4 lj4 uj4 la5 ua5 lj5 uj5
  have heq : ∀ v, (binOp .eql 36 (.agg #[.int .u64 j0, .int .u64 j1, .int .u64 j2, .int .u64 j3, .int .u64 j4, .int .u64 j5]) (.agg #[.int .u64 j0, .int .u64 j1, .int .u64 j2, .int .u64 j3, .int .u64 j4, .int .u64 j5])).run Try.prog v = .ok (.bool true) v := fun v => by
    have := run_eql_ints (P := Try.prog) v 36 34 6 .u64 Try.underlying36 Try.underlying34 (fun w => by kernel_rfl) [j0, j1, j2, j3, j4, j5] [j0, j1, j2, j3, j4, j5] rfl rfl
    simpa using this
  go_enter Try.func6, Try.ntmps6
  go_wp2_with fail
  have HS := hid (show ∀ w' : World, Below (w.heap.size + 3) (((w.alloc (.cells #[.int .u64 a0, .int .u64 a1, .int .u64 a2, .int .u64 a3, .int .u64 a4, .int .u64 a5] 36)).alloc (.cells #[.int .u64 b0, .int .u64 b1, .int .u64 b2, .int .u64 b3, .int .u64 b4, .int .u64 b5] 36)).alloc (.cells #[.int .u64 c0, .int .u64 c1, .int .u64 c2, .int .u64 c3, .int .u64 c4, .int .u64 c5] 36)) w' → w'.cell? ⟨w.heap.size, 0, none⟩ = some (.int .u64 a0) ∧ w'.cell? ⟨w.heap.size, 1, none⟩ = some (.int .u64 a1) ∧ w'.cell? ⟨w.heap.size, 2, none⟩ = some (.int .u64 a2) ∧ w'.cell? ⟨w.heap.size, 3, none⟩ = some (.int .u64 a3) ∧ w'.cell? ⟨w.heap.size, 4, none⟩ = some (.int .u64 a4) ∧ w'.cell? ⟨w.heap.size, 5, none⟩ = some (.int .u64 a5) ∧ w'.cell? ⟨w.heap.size + 1, 0, none⟩ = some (.int .u64 b0) ∧ w'.cell? ⟨w.heap.size + 1, 1, none⟩ = some (.int .u64 b1) ∧ w'.cell? ⟨w.heap.size + 1, 2, none⟩ = some (.int .u64 b2) ∧ w'.cell? ⟨w.heap.size + 1, 3, none⟩ = some (.int .u64 b3) ∧ w'.cell? ⟨w.heap.size + 1, 4, none⟩ = some (.int .u64 b4) ∧ w'.cell? ⟨w.heap.size + 1, 5, none⟩ = some (.int .u64 b5) from fun w' hb => by
    (repeat' apply And.intro) <;> (rw [hb.cell (by simp)]; go_simp))
  go_cut [7, 8] (fun s7 s8 wz => ∃ (g h : Nat) (wx : World), wx = wz ∧ s7 = .pointer (some ⟨g, 0, none⟩) ∧ s8 = .pointer (some ⟨h, 0, none⟩) ∧ Below (w.heap.size + 3) (((w.alloc (.cells #[.int .u64 a0, .int .u64 a1, .int .u64 a2, .int .u64 a3, .int .u64 a4, .int .u64 a5] 36)).alloc (.cells #[.int .u64 b0, .int .u64 b1, .int .u64 b2, .int .u64 b3, .int .u64 b4, .int .u64 b5] 36)).alloc (.cells #[.int .u64 c0, .int .u64 c1, .int .u64 c2, .int .u64 c3, .int .u64 c4, .int .u64 c5] 36)) wx ∧ wx.cell? ⟨g, 0, none⟩ = some (.int .u64 j0) ∧ wx.cell? ⟨g, 1, none⟩ = some (.int .u64 j1) ∧ wx.cell? ⟨g, 2, none⟩ = some (.int .u64 j2) ∧ wx.cell? ⟨g, 3, none⟩ = some (.int .u64 j3) ∧ wx.cell? ⟨g, 4, none⟩ = some (.int .u64 j4) ∧ wx.cell? ⟨g, 5, none⟩ = some (.int .u64 j5) ∧ wx.cell? ⟨h, 0, none⟩ = some (.int .u64 m0) ∧ wx.cell? ⟨h, 1, none⟩ = some (.int .u64 m1) ∧ wx.cell? ⟨h, 2, none⟩ = some (.int .u64 m2) ∧ wx.cell? ⟨h, 3, none⟩ = some (.int .u64 m3) ∧ wx.cell? ⟨h, 4, none⟩ = some (.int .u64 m4) ∧ wx.cell? ⟨h, 5, none⟩ = some (.int .u64 m5))
  case first =>
    go_region_held3 (fun w' => w'.cell? ⟨w.heap.size, 0, none⟩ = some (.int .u64 a0) ∧ w'.cell? ⟨w.heap.size, 1, none⟩ = some (.int .u64 a1) ∧ w'.cell? ⟨w.heap.size, 2, none⟩ = some (.int .u64 a2) ∧ w'.cell? ⟨w.heap.size, 3, none⟩ = some (.int .u64 a3) ∧ w'.cell? ⟨w.heap.size, 4, none⟩ = some (.int .u64 a4) ∧ w'.cell? ⟨w.heap.size, 5, none⟩ = some (.int .u64 a5) ∧ w'.cell? ⟨w.heap.size + 1, 0, none⟩ = some (.int .u64 b0) ∧ w'.cell? ⟨w.heap.size + 1, 1, none⟩ = some (.int .u64 b1) ∧ w'.cell? ⟨w.heap.size + 1, 2, none⟩ = some (.int .u64 b2) ∧ w'.cell? ⟨w.heap.size + 1, 3, none⟩ = some (.int .u64 b3) ∧ w'.cell? ⟨w.heap.size + 1, 4, none⟩ = some (.int .u64 b4) ∧ w'.cell? ⟨w.heap.size + 1, 5, none⟩ = some (.int .u64 b5)) ((refine HS.out _ ?_; (repeat (first | exact Below.refl _ _ | apply Below.drew | apply below_drewN | (refine Below.alloc ?_ (by first | (simp; done) | (simp; omega) | omega) _) | (refine Below.setCell ?_ (by simp) _)))))
      (first
        | (go_at_call 19; refine (join_x _ _ _ _ _ _ _ _ _ _ _ _ _ _ _ _ _ _ HJ.out.1 HJ.out.2.1 HJ.out.2.2.1 HJ.out.2.2.2.1 HJ.out.2.2.2.2.1 HJ.out.2.2.2.2.2 _).mono ?_; rintro e w1 ⟨rfl, rfl⟩)
        | (go_at_call 20; refine (meet_x _ _ _ _ _ _ _ _ _ _ _ _ _ _ _ _ _ _ HM.out.1 HM.out.2.1 HM.out.2.2.1 HM.out.2.2.2.1 HM.out.2.2.2.2.1 HM.out.2.2.2.2.2 _).mono ?_; rintro e w2 ⟨rfl, rfl⟩))
    all_goals go_wp2_with fail
    all_goals go_meet
    all_goals refine ⟨_, _, _, rfl, rfl, rfl, ?_, ?_⟩
    all_goals try dsimp only
    all_goals first | ((repeat (first | exact Below.refl _ _ | apply Below.drew | apply below_drewN | (refine Below.alloc ?_ (by first | (simp; done) | (simp; omega) | omega) _) | (refine Below.setCell ?_ (by simp) _))); done) | (simp [go_sem]; done)
  case rest =>
    obtain ⟨W, hW⟩ : ∃ W : World, W = (((w.alloc (.cells #[.int .u64 a0, .int .u64 a1, .int .u64 a2, .int .u64 a3, .int .u64 a4, .int .u64 a5] 36)).alloc (.cells #[.int .u64 b0, .int .u64 b1, .int .u64 b2, .int .u64 b3, .int .u64 b4, .int .u64 b5] 36)).alloc (.cells #[.int .u64 c0, .int .u64 c1, .int .u64 c2, .int .u64 c3, .int .u64 c4, .int .u64 c5] 36)) := ⟨_, rfl⟩
    obtain ⟨g, h, wx, rfl, rfl, rfl, hbx, s0, s1, s2, s3, s4, s5, t0, t1, t2, t3, t4, t5⟩ := hcut
    rw [← hW] at hbx
    have hB : Below w.heap.size w W := by rw [hW]; exact (((Below.refl _ _).alloc (Nat.le_refl _) _).alloc (by simp) _).alloc (by simp; omega) _
    have hZ : W.heap.size = w.heap.size + 3 := by rw [hW]; simp
    have p0 : W.cell? ⟨w.heap.size, 0, none⟩ = some (.int .u64 a0) := by rw [hW]; go_simp
    have p1 : W.cell? ⟨w.heap.size, 1, none⟩ = some (.int .u64 a1) := by rw [hW]; go_simp
    have p2 : W.cell? ⟨w.heap.size, 2, none⟩ = some (.int .u64 a2) := by rw [hW]; go_simp
    have p3 : W.cell? ⟨w.heap.size, 3, none⟩ = some (.int .u64 a3) := by rw [hW]; go_simp
    have p4 : W.cell? ⟨w.heap.size, 4, none⟩ = some (.int .u64 a4) := by rw [hW]; go_simp
    have p5 : W.cell? ⟨w.heap.size, 5, none⟩ = some (.int .u64 a5) := by rw [hW]; go_simp
    have q0 : W.cell? ⟨w.heap.size + 1, 0, none⟩ = some (.int .u64 b0) := by rw [hW]; go_simp
    have q1 : W.cell? ⟨w.heap.size + 1, 1, none⟩ = some (.int .u64 b1) := by rw [hW]; go_simp
    have q2 : W.cell? ⟨w.heap.size + 1, 2, none⟩ = some (.int .u64 b2) := by rw [hW]; go_simp
    have q3 : W.cell? ⟨w.heap.size + 1, 3, none⟩ = some (.int .u64 b3) := by rw [hW]; go_simp
    have q4 : W.cell? ⟨w.heap.size + 1, 4, none⟩ = some (.int .u64 b4) := by rw [hW]; go_simp
    have q5 : W.cell? ⟨w.heap.size + 1, 5, none⟩ = some (.int .u64 b5) := by rw [hW]; go_simp
    have r0 : W.cell? ⟨w.heap.size + 2, 0, none⟩ = some (.int .u64 c0) := by rw [hW]; go_simp
    have r1 : W.cell? ⟨w.heap.size + 2, 1, none⟩ = some (.int .u64 c1) := by rw [hW]; go_simp
    have r2 : W.cell? ⟨w.heap.size + 2, 2, none⟩ = some (.int .u64 c2) := by rw [hW]; go_simp
    have r3 : W.cell? ⟨w.heap.size + 2, 3, none⟩ = some (.int .u64 c3) := by rw [hW]; go_simp
    have r4 : W.cell? ⟨w.heap.size + 2, 4, none⟩ = some (.int .u64 c4) := by rw [hW]; go_simp
    have r5 : W.cell? ⟨w.heap.size + 2, 5, none⟩ = some (.int .u64 c5) := by rw [hW]; go_simp
    clear hW
    rw [← hZ] at hbx
    have lg := World.block_lt_of_cell? wx _ s0
    have lh := World.block_lt_of_cell? wx _ t0
    have hzx := hbx.size
    have l1 : w.heap.size < wx.heap.size := by omega
    have l2 : w.heap.size + 1 < wx.heap.size := by omega
    have l3 : w.heap.size + 2 < wx.heap.size := by omega
    rw [← hbx.cell (by simp; omega)] at p0; rw [← hbx.cell (by simp; omega)] at p1; rw [← hbx.cell (by simp; omega)] at p2; rw [← hbx.cell (by simp; omega)] at p3; rw [← hbx.cell (by simp; omega)] at p4; rw [← hbx.cell (by simp; omega)] at p5; rw [← hbx.cell (by simp; omega)] at q0; rw [← hbx.cell (by simp; omega)] at q1; rw [← hbx.cell (by simp; omega)] at q2; rw [← hbx.cell (by simp; omega)] at q3; rw [← hbx.cell (by simp; omega)] at q4; rw [← hbx.cell (by simp; omega)] at q5; rw [← hbx.cell (by simp; omega)] at r0; rw [← hbx.cell (by simp; omega)] at r1; rw [← hbx.cell (by simp; omega)] at r2; rw [← hbx.cell (by simp; omega)] at r3; rw [← hbx.cell (by simp; omega)] at r4; rw [← hbx.cell (by simp; omega)] at r5
    have hBx : Below w.heap.size w wx := hB.trans (hbx.mono (by omega))
    clear hbx hB hZ hzx
    cases x
    · go_wp2_with fail
      refine (great_g _ _ _ _ _ _ _ _ _ _ _ _ _).mono ?_
      rintro e w1 ⟨rfl, hb1⟩
      go_wp2_with fail
      have hV : Below wx.heap.size wx w1 := hb1
      refine region_U 65 (fun v => Below wx.heap.size wx v) has_follows (by kernel_rfl) rfl hV.drew ?_
      iterate 42
        apply ListU.cons
        · intro v hv K hK
          obtain ⟨hc, hf⟩ := bcell hv
          go_simp
          first
            | exact hK _ hv
            | (refine (great_g _ _ _ _ _ _ _ _ _ _ _ _ _).mono ?_; rintro e v1 ⟨rfl, hv1⟩; exact hK _ (hv.trans (hv1.mono hv.size)))
            | (refine (awake14 _).mono ?_; rintro e v1 ⟨rfl, hv1⟩; exact hK _ (hv.trans (hv1.mono hv.size)))
            | (refine (missing_any _ _ _ _ _ _ _ _ _ _ _ _ HL.out.2.2.1.1 HL.out.2.2.2.1 HL.out.2.2.1.2.1 HL.out.2.2.2.2.1 HL.out.2.2.1.2.2.1 HL.out.2.2.2.2.2.1 HL.out.2.2.1.2.2.2.1 HL.out.2.2.2.2.2.2.1 HL.out.2.2.1.2.2.2.2.1 HL.out.2.2.2.2.2.2.2.1 HL.out.2.2.1.2.2.2.2.2 HL.out.2.2.2.2.2.2.2.2 HL.out.1.1 HL.out.2.1.1 HL.out.1.2.1 HL.out.2.1.2.1 HL.out.1.2.2.1 HL.out.2.1.2.2.1 HL.out.1.2.2.2.1 HL.out.2.1.2.2.2.1 HL.out.1.2.2.2.2.1 HL.out.2.1.2.2.2.2.1 HL.out.1.2.2.2.2.2 HL.out.2.1.2.2.2.2.2 _).mono ?_; rintro e v1 ⟨rfl, hv1⟩; first | exact hK _ (hv.trans (hv1.mono hv.size)))
            | (refine (join_raw _ _ _ _ _ _ _ _ _ _ _ _ _ _ _ _ _ _ HK.out.1 HK.out.2.1 HK.out.2.2.1 HK.out.2.2.2.1 HK.out.2.2.2.2.1 HK.out.2.2.2.2.2 _).mono ?_; rintro e v1 ⟨rfl, hv1⟩; exact hK _ (hv.trans (hv1.mono hv.size)))
        · rfl
      intro v hv
      refine NoPanic.normal ?_
      go_wp2
      go_ret
      exact ⟨rfl, hBx.trans (hv.mono hBx.size)⟩
    · go_wp2_with fail
      refine (great_g _ _ _ _ _ _ _ _ _ _ _ _ _).mono ?_
      rintro e w1 ⟨rfl, hb1⟩
      obtain ⟨hc1, hf1⟩ := bcell hb1
      go_wp2_with fail
      refine (great_g _ _ _ _ _ _ _ _ _ _ _ _ _).mono ?_
      rintro e w2 ⟨rfl, hb2⟩
      go_wp2_with fail
      have hV : Below wx.heap.size wx w2 := hb1.trans (hb2.mono hb1.size)
      clear hc1 hf1
      refine region_U 65 (fun v => Below wx.heap.size wx v) has_follows (by kernel_rfl) rfl hV.drew ?_
      iterate 42
        apply ListU.cons
        · intro v hv K hK
          obtain ⟨hc, hf⟩ := bcell hv
          go_simp
          first
            | exact hK _ hv
            | (refine (great_g _ _ _ _ _ _ _ _ _ _ _ _ _).mono ?_; rintro e v1 ⟨rfl, hv1⟩; exact hK _ (hv.trans (hv1.mono hv.size)))
            | (refine (awake14 _).mono ?_; rintro e v1 ⟨rfl, hv1⟩; exact hK _ (hv.trans (hv1.mono hv.size)))
            | (refine (missing_any _ _ _ _ _ _ _ _ _ _ _ _ HL.out.2.2.1.1 HL.out.2.2.2.1 HL.out.2.2.1.2.1 HL.out.2.2.2.2.1 HL.out.2.2.1.2.2.1 HL.out.2.2.2.2.2.1 HL.out.2.2.1.2.2.2.1 HL.out.2.2.2.2.2.2.1 HL.out.2.2.1.2.2.2.2.1 HL.out.2.2.2.2.2.2.2.1 HL.out.2.2.1.2.2.2.2.2 HL.out.2.2.2.2.2.2.2.2 HL.out.1.1 HL.out.2.1.1 HL.out.1.2.1 HL.out.2.1.2.1 HL.out.1.2.2.1 HL.out.2.1.2.2.1 HL.out.1.2.2.2.1 HL.out.2.1.2.2.2.1 HL.out.1.2.2.2.2.1 HL.out.2.1.2.2.2.2.1 HL.out.1.2.2.2.2.2 HL.out.2.1.2.2.2.2.2 _).mono ?_; rintro e v1 ⟨rfl, hv1⟩; first | exact hK _ (hv.trans (hv1.mono hv.size)))
            | (refine (join_raw _ _ _ _ _ _ _ _ _ _ _ _ _ _ _ _ _ _ HK.out.1 HK.out.2.1 HK.out.2.2.1 HK.out.2.2.2.1 HK.out.2.2.2.2.1 HK.out.2.2.2.2.2 _).mono ?_; rintro e v1 ⟨rfl, hv1⟩; exact hK _ (hv.trans (hv1.mono hv.size)))
        · rfl
      intro v hv
      refine NoPanic.normal ?_
      go_wp2
      go_ret
      exact ⟨rfl, hBx.trans (hv.mono hBx.size)⟩
end Go.Proofs.Ytmmaiohnfphcjaa
