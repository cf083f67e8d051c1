/- Contracts of package vector. -/
import Derived.Test.YtmmaiohnfphcjaaVec2
import Derived.Test.YtmmaiohnfphcjaaVec3
import Derived.Test.YtmmaiohnfphcjaaVec4
import Derived.Test.YtmmaiohnfphcjaaU
import Derived.Test.YtmmaiohnfphcjaaEq
import Derived.RegionTactic
import Derived.BigRegion
import Derived.Deep.QuietTactic
import Derived.BigQuiet
import Derived.WalkSmall
import Derived.Deep.RegionHeld3
import Derived.Deep.DeepCutAuto
import Derived.Deep.DrawnRows
import Derived.WalkLawsBesides
namespace Go.Proofs.Ytmmaiohnfphcjaa
open Go.ChangeShapes Go.WideShapes Go.ChangeAt Go.RowKit


set_option linter.unusedVariables false
/-- Of six numbers the first k, added by a function. -/
def sumTo (f : Nat → Int) : Nat → Int | 0 => 0 | k + 1 => sumTo f k + f k
theorem sumTo_bd (f : Nat → Int) (B : Int) (h : ∀ i, 0 ≤ f i ∧ f i ≤ B) (hB : 0 ≤ B) : ∀ k, 0 ≤ sumTo f k ∧ sumTo f k ≤ k * B
  | 0 => ⟨Int.le_refl _, by simp [sumTo]⟩
  | k + 1 => by
    have := sumTo_bd f B h hB k
    have h' := h k
    have e : ((k + 1 : Nat) : Int) * B = k * B + B := by push_cast; rw [Int.add_mul]; omega
    constructor
    · simp only [sumTo]; omega
    · rw [e]; simp only [sumTo]; omega

theorem tz_step {av : Nat → Int} {k : Nat} {tz x : Int} (hk : k < 6) (gt : tz = sumTo (fun k => mt (av k)) k) (h0 : ∀ i, 0 ≤ av i) (hx : x = mt (av k)) : IntKind.u64.wrap (tz + x) = sumTo (fun k => mt (av k)) (k + 1) := by
  have hb := sumTo_bd (fun k => mt (av k)) 1048576 (fun i => mt_bd _ (h0 i)) (by decide) k
  have hm := mt_bd (av k) (h0 k)
  simp only [sumTo]
  subst hx
  rw [← gt] at hb ⊢
  rw [IntKind.wrap_u64]
  omega

theorem z_step {av bv : Nat → Int} {k : Nat} {z : Int} (hk : k < 6) (gz : z = sumTo (fun k => md (av k) (bv k)) k) (h0 : 0 ≤ av k) (hb' : bv k ≤ 1099511627776) (hab : av k < bv k) : IntKind.u64.wrap (z + (bv k - av k)) = sumTo (fun k => md (av k) (bv k)) (k + 1) := by
  have hb := sumTo_bd (fun k => md (av k) (bv k)) 1099511627776 (fun i => md_bd _ _) (by decide) k
  have hm : md (av k) (bv k) = bv k - av k := by unfold md; rw [if_pos hab]; split <;> omega
  simp only [sumTo]
  rw [← gz] at hb ⊢
  rw [hm, IntKind.wrap_u64]
  omega

theorem z_same {av bv : Nat → Int} {k : Nat} {z : Int} (gz : z = sumTo (fun k => md (av k) (bv k)) k) (hab : ¬ av k < bv k) : z = sumTo (fun k => md (av k) (bv k)) (k + 1) := by
  simp only [sumTo]
  rw [md_no (by omega), ← gz]
  omega

theorem bcell8 {B : Nat} {W w1 : World} (hb : Below B W w1) : (∀ b o, b < B → w1.cell? ⟨b, o, none⟩ = W.cell? ⟨b, o, none⟩) ∧ (∀ b o, b < B → w1.frozen? ⟨b, o, none⟩ = W.frozen? ⟨b, o, none⟩) :=
  ⟨fun b o h => hb.cell (p := ⟨b, o, none⟩) h, fun b o h => hb.frozen (p := ⟨b, o, none⟩) h⟩

theorem has_follows8 : Try.prog.follows .mixedOrders = true := by kernel_rfl
set_option maxRecDepth 100000 in
set_option maxHeartbeats 40000000 in
theorem reckons_raw (a0 a1 a2 a3 a4 a5 b0 b1 b2 b3 b4 b5 j0 j1 j2 j3 j4 j5 m0 m1 m2 m3 m4 m5 : Int) (la0 : 0 ≤ a0) (ua0 : a0 ≤ 18446744073709551615) (la1 : 0 ≤ a1) (ua1 : a1 ≤ 18446744073709551615) (la2 : 0 ≤ a2) (ua2 : a2 ≤ 18446744073709551615) (la3 : 0 ≤ a3) (ua3 : a3 ≤ 18446744073709551615) (la4 : 0 ≤ a4) (ua4 : a4 ≤ 18446744073709551615) (la5 : 0 ≤ a5) (ua5 : a5 ≤ 18446744073709551615) (lb0 : 0 ≤ b0) (ub0 : b0 ≤ 18446744073709551615) (lb1 : 0 ≤ b1) (ub1 : b1 ≤ 18446744073709551615) (lb2 : 0 ≤ b2) (ub2 : b2 ≤ 18446744073709551615) (lb3 : 0 ≤ b3) (ub3 : b3 ≤ 18446744073709551615) (lb4 : 0 ≤ b4) (ub4 : b4 ≤ 18446744073709551615) (lb5 : 0 ≤ b5) (ub5 : b5 ≤ 18446744073709551615) (hj0 : (if a0 < b0 then b0 else a0) = j0) (hj1 : (if a1 < b1 then b1 else a1) = j1) (hj2 : (if a2 < b2 then b2 else a2) = j2) (hj3 : (if a3 < b3 then b3 else a3) = j3) (hj4 : (if a4 < b4 then b4 else a4) = j4) (hj5 : (if a5 < b5 then b5 else a5) = j5) (hm0 : (if b0 < a0 then b0 else a0) = m0) (hm1 : (if b1 < a1 then b1 else a1) = m1) (hm2 : (if b2 < a2 then b2 else a2) = m2) (hm3 : (if b3 < a3 then b3 else a3) = m3) (hm4 : (if b4 < a4 then b4 else a4) = m4) (hm5 : (if b5 < a5 then b5 else a5) = m5) (w : World) :
    Calls Try.prog 7 #[.agg #[.int .u64 a0, .int .u64 a1, .int .u64 a2, .int .u64 a3, .int .u64 a4, .int .u64 a5], .agg #[.int .u64 b0, .int .u64 b1, .int .u64 b2, .int .u64 b3, .int .u64 b4, .int .u64 b5]] w fun e w' =>
      e = .returned (.bool true) ∧ Below w.heap.size w w' := by
  have HJ := hid (And.intro hj0 (And.intro hj1 (And.intro hj2 (And.intro hj3 (And.intro hj4 hj5)))))
  have HM := hid (And.intro hm0 (And.intro hm1 (And.intro hm2 (And.intro hm3 (And.intro hm4 hm5)))))
  have HJK := hid (show ∀ k, k < 6 → (if [a0, a1, a2, a3, a4, a5].getD k 0 < [b0, b1, b2, b3, b4, b5].getD k 0 then [b0, b1, b2, b3, b4, b5].getD k 0 else [a0, a1, a2, a3, a4, a5].getD k 0) = [j0, j1, j2, j3, j4, j5].getD k 0 from fun k hk => by
    rcases (by omega : k = 0 ∨ k = 1 ∨ k = 2 ∨ k = 3 ∨ k = 4 ∨ k = 5) with rfl | rfl | rfl | rfl | rfl | rfl
    · exact hj0
    · exact hj1
    · exact hj2
    · exact hj3
    · exact hj4
    · exact hj5)
  have HMK := hid (show ∀ k, k < 6 → (if [b0, b1, b2, b3, b4, b5].getD k 0 < [a0, a1, a2, a3, a4, a5].getD k 0 then [b0, b1, b2, b3, b4, b5].getD k 0 else [a0, a1, a2, a3, a4, a5].getD k 0) = [m0, m1, m2, m3, m4, m5].getD k 0 from fun k hk => by
    rcases (by omega : k = 0 ∨ k = 1 ∨ k = 2 ∨ k = 3 ∨ k = 4 ∨ k = 5) with rfl | rfl | rfl | rfl | rfl | rfl
    · exact hm0
    · exact hm1
    · exact hm2
    · exact hm3
    · exact hm4
    · exact hm5)
  have HA := hid (show ∀ k, 0 ≤ [a0, a1, a2, a3, a4, a5].getD k 0 ∧ [a0, a1, a2, a3, a4, a5].getD k 0 ≤ 18446744073709551615 from fun k => by
    match k with
    | 0 => exact ⟨la0, ua0⟩ | 1 => exact ⟨la1, ua1⟩ | 2 => exact ⟨la2, ua2⟩ | 3 => exact ⟨la3, ua3⟩ | 4 => exact ⟨la4, ua4⟩ | 5 => exact ⟨la5, ua5⟩
    | k + 6 => simp)
  have HB := hid (show ∀ k, 0 ≤ [b0, b1, b2, b3, b4, b5].getD k 0 ∧ [b0, b1, b2, b3, b4, b5].getD k 0 ≤ 18446744073709551615 from fun k => by
    match k with
    | 0 => exact ⟨lb0, ub0⟩ | 1 => exact ⟨lb1, ub1⟩ | 2 => exact ⟨lb2, ub2⟩ | 3 => exact ⟨lb3, ub3⟩ | 4 => exact ⟨lb4, ub4⟩ | 5 => exact ⟨lb5, ub5⟩
    | k + 6 => simp)
  have HL := hid (show 0 ≤ a0 ∧ a0 ≤ 18446744073709551615 ∧ 0 ≤ b0 ∧ b0 ≤ 18446744073709551615 ∧ 0 ≤ a1 ∧ a1 ≤ 18446744073709551615 ∧ 0 ≤ b1 ∧ b1 ≤ 18446744073709551615 ∧ 0 ≤ a2 ∧ a2 ≤ 18446744073709551615 ∧ 0 ≤ b2 ∧ b2 ≤ 18446744073709551615 ∧ 0 ≤ a3 ∧ a3 ≤ 18446744073709551615 ∧ 0 ≤ b3 ∧ b3 ≤ 18446744073709551615 ∧ 0 ≤ a4 ∧ a4 ≤ 18446744073709551615 ∧ 0 ≤ b4 ∧ b4 ≤ 18446744073709551615 ∧ 0 ≤ a5 ∧ a5 ≤ 18446744073709551615 ∧ 0 ≤ b5 ∧ b5 ≤ 18446744073709551615 from ⟨la0, ua0, lb0, ub0, la1, ua1, lb1, ub1, la2, ua2, lb2, ub2, la3, ua3, lb3, ub3, la4, ua4, lb4, ub4, la5, ua5, lb5, ub5⟩)
  clear hj0 hj1 hj2 hj3 hj4 hj5 hm0 hm1 hm2 hm3 hm4 hm5 la0 ua0 lb0 ub0 la1 ua1 lb1 ub1 la2 ua2 lb2 ub2 la3 ua3 lb3 ub3 la4 ua4 lb4 ub4 la5 ua5 lb5 ub5
  go_enter Try.func7, Try.ntmps7
  go_wp2_with fail
  have HS := hid (show ∀ w' : World, Below (w.heap.size + 2) ((w.alloc (.cells #[.int .u64 a0, .int .u64 a1, .int .u64 a2, .int .u64 a3, .int .u64 a4, .int .u64 a5] 36)).alloc (.cells #[.int .u64 b0, .int .u64 b1, .int .u64 b2, .int .u64 b3, .int .u64 b4, .int .u64 b5] 36)) w' → w'.cell? ⟨w.heap.size, 0, none⟩ = some (.int .u64 a0) ∧ w'.cell? ⟨w.heap.size, 1, none⟩ = some (.int .u64 a1) ∧ w'.cell? ⟨w.heap.size, 2, none⟩ = some (.int .u64 a2) ∧ w'.cell? ⟨w.heap.size, 3, none⟩ = some (.int .u64 a3) ∧ w'.cell? ⟨w.heap.size, 4, none⟩ = some (.int .u64 a4) ∧ w'.cell? ⟨w.heap.size, 5, none⟩ = some (.int .u64 a5) ∧ w'.cell? ⟨w.heap.size + 1, 0, none⟩ = some (.int .u64 b0) ∧ w'.cell? ⟨w.heap.size + 1, 1, none⟩ = some (.int .u64 b1) ∧ w'.cell? ⟨w.heap.size + 1, 2, none⟩ = some (.int .u64 b2) ∧ w'.cell? ⟨w.heap.size + 1, 3, none⟩ = some (.int .u64 b3) ∧ w'.cell? ⟨w.heap.size + 1, 4, none⟩ = some (.int .u64 b4) ∧ w'.cell? ⟨w.heap.size + 1, 5, none⟩ = some (.int .u64 b5) from fun w' hb => by
    (repeat' apply And.intro) <;> (rw [hb.cell (by simp)]; go_simp))
  go_cut [5, 6] (fun s5 s6 wz => ∃ (g h : Nat), s5 = .pointer (some ⟨g, 0, none⟩) ∧ s6 = .pointer (some ⟨h, 0, none⟩) ∧ Below (w.heap.size + 2) ((w.alloc (.cells #[.int .u64 a0, .int .u64 a1, .int .u64 a2, .int .u64 a3, .int .u64 a4, .int .u64 a5] 36)).alloc (.cells #[.int .u64 b0, .int .u64 b1, .int .u64 b2, .int .u64 b3, .int .u64 b4, .int .u64 b5] 36)) wz ∧ wz.cell? ⟨g, 0, none⟩ = some (.int .u64 j0) ∧ wz.cell? ⟨g, 1, none⟩ = some (.int .u64 j1) ∧ wz.cell? ⟨g, 2, none⟩ = some (.int .u64 j2) ∧ wz.cell? ⟨g, 3, none⟩ = some (.int .u64 j3) ∧ wz.cell? ⟨g, 4, none⟩ = some (.int .u64 j4) ∧ wz.cell? ⟨g, 5, none⟩ = some (.int .u64 j5) ∧ wz.cell? ⟨h, 0, none⟩ = some (.int .u64 m0) ∧ wz.cell? ⟨h, 1, none⟩ = some (.int .u64 m1) ∧ wz.cell? ⟨h, 2, none⟩ = some (.int .u64 m2) ∧ wz.cell? ⟨h, 3, none⟩ = some (.int .u64 m3) ∧ wz.cell? ⟨h, 4, none⟩ = some (.int .u64 m4) ∧ wz.cell? ⟨h, 5, none⟩ = some (.int .u64 m5))
  case first =>
    go_region_held3 (fun w' => w'.cell? ⟨w.heap.size, 0, none⟩ = some (.int .u64 a0) ∧ w'.cell? ⟨w.heap.size, 1, none⟩ = some (.int .u64 a1) ∧ w'.cell? ⟨w.heap.size, 2, none⟩ = some (.int .u64 a2) ∧ w'.cell? ⟨w.heap.size, 3, none⟩ = some (.int .u64 a3) ∧ w'.cell? ⟨w.heap.size, 4, none⟩ = some (.int .u64 a4) ∧ w'.cell? ⟨w.heap.size, 5, none⟩ = some (.int .u64 a5) ∧ w'.cell? ⟨w.heap.size + 1, 0, none⟩ = some (.int .u64 b0) ∧ w'.cell? ⟨w.heap.size + 1, 1, none⟩ = some (.int .u64 b1) ∧ w'.cell? ⟨w.heap.size + 1, 2, none⟩ = some (.int .u64 b2) ∧ w'.cell? ⟨w.heap.size + 1, 3, none⟩ = some (.int .u64 b3) ∧ w'.cell? ⟨w.heap.size + 1, 4, none⟩ = some (.int .u64 b4) ∧ w'.cell? ⟨w.heap.size + 1, 5, none⟩ = some (.int .u64 b5)) ((refine HS.out _ ?_; (repeat (first | exact Below.refl _ _ | apply Below.drew | apply below_drewN | (refine Below.alloc ?_ (by first | (simp; done) | (simp; omega) | omega) _) | (refine Below.setCell ?_ (by simp) _)))))
      (first
        | (go_at_call 19; refine (join_x _ _ _ _ _ _ _ _ _ _ _ _ _ _ _ _ _ _ HJ.out.1 HJ.out.2.1 HJ.out.2.2.1 HJ.out.2.2.2.1 HJ.out.2.2.2.2.1 HJ.out.2.2.2.2.2 _).mono ?_; rintro e w1 ⟨rfl, rfl⟩)
        | (go_at_call 20; refine (meet_x _ _ _ _ _ _ _ _ _ _ _ _ _ _ _ _ _ _ HM.out.1 HM.out.2.1 HM.out.2.2.1 HM.out.2.2.2.1 HM.out.2.2.2.2.1 HM.out.2.2.2.2.2 _).mono ?_; rintro e w2 ⟨rfl, rfl⟩))
    all_goals go_wp2_with fail
    all_goals go_meet
    all_goals refine ⟨_, _, rfl, rfl, ?_, ?_⟩
    all_goals try dsimp only
    all_goals first | ((repeat (first | exact Below.refl _ _ | apply Below.drew | apply below_drewN | (refine Below.alloc ?_ (by first | (simp; done) | (simp; omega) | omega) _) | (refine Below.setCell ?_ (by simp) _))); done) | (simp [go_sem]; done)
  case rest =>
    obtain ⟨g, h, rfl, rfl, hbx, s0, s1, s2, s3, s4, s5, t0, t1, t2, t3, t4, t5⟩ := hcut
    have hc := HS.out wc hbx
    obtain ⟨p0, p1, p2, p3, p4, p5, q0, q1, q2, q3, q4, q5⟩ := hc
    have hBx : Below w.heap.size w wc := by
      have hB : Below w.heap.size w ((w.alloc (.cells #[.int .u64 a0, .int .u64 a1, .int .u64 a2, .int .u64 a3, .int .u64 a4, .int .u64 a5] 36)).alloc (.cells #[.int .u64 b0, .int .u64 b1, .int .u64 b2, .int .u64 b3, .int .u64 b4, .int .u64 b5] 36)) := ((Below.refl _ _).alloc (Nat.le_refl _) _).alloc (by simp) _
      exact hB.trans (hbx.mono (by omega))
    have hZ : w.heap.size + 2 ≤ wc.heap.size := by have := hbx.size; simpa using this
    clear hbx
    have lg := World.block_lt_of_cell? wc _ s0
    have lh := World.block_lt_of_cell? wc _ t0
    obtain ⟨wx, hwx⟩ : ∃ wx : World, wx = wc := ⟨_, rfl⟩
    rw [← hwx] at hBx hZ lg lh p0 p1 p2 p3 p4 p5 q0 q1 q2 q3 q4 q5 s0 s1 s2 s3 s4 s5 t0 t1 t2 t3 t4 t5
    have PA : ∀ k, k < 6 → wx.cell? ⟨w.heap.size, k, none⟩ = some (.int .u64 ([a0, a1, a2, a3, a4, a5].getD k 0)) := fun k hk => by
      rcases (by omega : k = 0 ∨ k = 1 ∨ k = 2 ∨ k = 3 ∨ k = 4 ∨ k = 5) with rfl | rfl | rfl | rfl | rfl | rfl
      · exact p0
      · exact p1
      · exact p2
      · exact p3
      · exact p4
      · exact p5
    have PB : ∀ k, k < 6 → wx.cell? ⟨w.heap.size + 1, k, none⟩ = some (.int .u64 ([b0, b1, b2, b3, b4, b5].getD k 0)) := fun k hk => by
      rcases (by omega : k = 0 ∨ k = 1 ∨ k = 2 ∨ k = 3 ∨ k = 4 ∨ k = 5) with rfl | rfl | rfl | rfl | rfl | rfl
      · exact q0
      · exact q1
      · exact q2
      · exact q3
      · exact q4
      · exact q5
    have PJ : ∀ k, k < 6 → wx.cell? ⟨g, k, none⟩ = some (.int .u64 ([j0, j1, j2, j3, j4, j5].getD k 0)) := fun k hk => by
      rcases (by omega : k = 0 ∨ k = 1 ∨ k = 2 ∨ k = 3 ∨ k = 4 ∨ k = 5) with rfl | rfl | rfl | rfl | rfl | rfl
      · exact s0
      · exact s1
      · exact s2
      · exact s3
      · exact s4
      · exact s5
    have PM : ∀ k, k < 6 → wx.cell? ⟨h, k, none⟩ = some (.int .u64 ([m0, m1, m2, m3, m4, m5].getD k 0)) := fun k hk => by
      rcases (by omega : k = 0 ∨ k = 1 ∨ k = 2 ∨ k = 3 ∨ k = 4 ∨ k = 5) with rfl | rfl | rfl | rfl | rfl | rfl
      · exact t0
      · exact t1
      · exact t2
      · exact t3
      · exact t4
      · exact t5
    rw [← hwx]
    replace PA := hid PA
    replace PB := hid PB
    replace PJ := hid PJ
    replace PM := hid PM
    clear s0 s1 s2 s3 s4 s5 t0 t1 t2 t3 t4 t5 hwx
    obtain ⟨av, hav⟩ : ∃ av : Nat → Int, av = fun k => [a0, a1, a2, a3, a4, a5].getD k 0 := ⟨_, rfl⟩
    obtain ⟨bv, hbv⟩ : ∃ bv : Nat → Int, bv = fun k => [b0, b1, b2, b3, b4, b5].getD k 0 := ⟨_, rfl⟩
    obtain ⟨jv, hjv⟩ : ∃ jv : Nat → Int, jv = fun k => [j0, j1, j2, j3, j4, j5].getD k 0 := ⟨_, rfl⟩
    obtain ⟨mv, hmv⟩ : ∃ mv : Nat → Int, mv = fun k => [m0, m1, m2, m3, m4, m5].getD k 0 := ⟨_, rfl⟩
    have QA := hid (show ∀ k, k < 6 → wx.cell? ⟨w.heap.size, k, none⟩ = some (.int .u64 (av k)) from fun k hk => by rw [hav]; exact PA.out k hk)
    have QB := hid (show ∀ k, k < 6 → wx.cell? ⟨w.heap.size + 1, k, none⟩ = some (.int .u64 (bv k)) from fun k hk => by rw [hbv]; exact PB.out k hk)
    have QJ := hid (show ∀ k, k < 6 → wx.cell? ⟨g, k, none⟩ = some (.int .u64 (jv k)) from fun k hk => by rw [hjv]; exact PJ.out k hk)
    have QM := hid (show ∀ k, k < 6 → wx.cell? ⟨h, k, none⟩ = some (.int .u64 (mv k)) from fun k hk => by rw [hmv]; exact PM.out k hk)
    have VA := hid (show ∀ k, 0 ≤ av k ∧ av k ≤ 18446744073709551615 from by rw [hav]; exact HA.out)
    have VB := hid (show ∀ k, 0 ≤ bv k ∧ bv k ≤ 18446744073709551615 from by rw [hbv]; exact HB.out)
    have VJ := hid (show ∀ k, k < 6 → (if av k < bv k then bv k else av k) = jv k from by rw [hav, hbv, hjv]; exact HJK.out)
    have VM := hid (show ∀ k, k < 6 → (if bv k < av k then bv k else av k) = mv k from by rw [hav, hbv, hmv]; exact HMK.out)
    have ET := hid (show sumTo (fun k => mt (av k)) 6 = mt a0 + mt a1 + mt a2 + mt a3 + mt a4 + mt a5 from by rw [hav]; simp [sumTo])
    have EM := hid (show sumTo (fun k => md (av k) (bv k)) 6 = md a0 b0 + md a1 b1 + md a2 b2 + md a3 b3 + md a4 b4 + md a5 b5 from by rw [hav, hbv]; simp [sumTo])
    clear hav hbv hjv hmv PA PB PJ PM HA HB HJK HMK HJ HM HS
    have HP := hid (show wx.cell? ⟨w.heap.size, 0, none⟩ = some (.int .u64 a0) ∧ wx.cell? ⟨w.heap.size, 1, none⟩ = some (.int .u64 a1) ∧ wx.cell? ⟨w.heap.size, 2, none⟩ = some (.int .u64 a2) ∧ wx.cell? ⟨w.heap.size, 3, none⟩ = some (.int .u64 a3) ∧ wx.cell? ⟨w.heap.size, 4, none⟩ = some (.int .u64 a4) ∧ wx.cell? ⟨w.heap.size, 5, none⟩ = some (.int .u64 a5) ∧ wx.cell? ⟨w.heap.size + 1, 0, none⟩ = some (.int .u64 b0) ∧ wx.cell? ⟨w.heap.size + 1, 1, none⟩ = some (.int .u64 b1) ∧ wx.cell? ⟨w.heap.size + 1, 2, none⟩ = some (.int .u64 b2) ∧ wx.cell? ⟨w.heap.size + 1, 3, none⟩ = some (.int .u64 b3) ∧ wx.cell? ⟨w.heap.size + 1, 4, none⟩ = some (.int .u64 b4) ∧ wx.cell? ⟨w.heap.size + 1, 5, none⟩ = some (.int .u64 b5) from ⟨p0, p1, p2, p3, p4, p5, q0, q1, q2, q3, q4, q5⟩)
    clear p0 p1 p2 p3 p4 p5 q0 q1 q2 q3 q4 q5
    go_wp2_with fail
    go_loopw [4, 7, 8, 9, 10] (fun r t u s i wr => ∃ (k n : Nat) (tz z : Int) (sm : Bool), k ≤ 6 ∧ i = .int .i64 k ∧ r = .bool false ∧ t = .int .u64 tz ∧ u = .int .u64 z ∧ s = .bool sm ∧ wr = wx.drewN n ∧ Hid (tz = sumTo (fun k => mt (av k)) k) ∧ Hid (sm = true → z = sumTo (fun k => md (av k) (bv k)) k)) (fun _ _ _ _ i _ => 6 - (intOf i).toNat)
    case atStart => exact ⟨0, 0, 0, 0, true, by omega, rfl, rfl, rfl, rfl, rfl, rfl, hid rfl, hid (fun _ => rfl)⟩
    case round =>
      obtain ⟨k, n, tz, z, sm, hk, rfl, rfl, rfl, rfl, rfl, rfl, gt, gz⟩ := hrel
      by_cases hlt : k < 6
      · have ca := QA.out k hlt
        have cb := QB.out k hlt
        have cj := QJ.out k hlt
        have cm := QM.out k hlt
        have ej := VJ.out k hlt
        have em := VM.out k hlt
        have ba := VA.out k
        have bb := VB.out k
        have k0 : (0 : Int) ≤ (k : Int) := by omega
        have k1 : (k : Int) < 6 := by omega
        go_wp2_with fail
        go_quiet (fail)
        go_wp2_with fail
        all_goals
          by_cases hab : av k < bv k
          · have dab : decide (av k < bv k) = true := by simpa using hab
            go_quiet (fail)
            go_wp2_with fail
            go_quiet (fail)
            go_wp2_with fail
            refine ⟨⟨k + 1, _, _, _, _, by omega, by go_num, rfl, rfl, rfl, rfl, rfl, hid ?_, hid ?_⟩, by simp [intOf]; omega⟩
            · exact tz_step hlt gt.out (fun i => (VA.out i).1) (by unfold mt; split <;> omega)
            · first
                | exact fun h => z_step hlt (gz.out rfl) ba.1 (by simpa using h) hab
                | exact fun h => absurd h (by decide)
                | (intro h; exact z_step hlt (gz.out (by first | rfl | assumption)) ba.1 (of_decide_eq_true h) hab)
          · have dab : decide (av k < bv k) = false := by simpa using hab
            go_quiet (fail)
            go_wp2_with fail
            refine ⟨⟨k + 1, _, _, _, _, by omega, by go_num, rfl, rfl, rfl, rfl, rfl, hid ?_, hid ?_⟩, by simp [intOf]; omega⟩
            · exact tz_step hlt gt.out (fun i => (VA.out i).1) (by unfold mt; split <;> omega)
            · first
                | exact fun h => z_same (gz.out rfl) hab
                | exact fun h => absurd h (by decide)
                | (intro h; exact z_same (gz.out (by first | rfl | assumption)) hab)
      · obtain rfl : k = 6 := by omega
        rw [ET.out] at gt
        rw [EM.out] at gz
        have gt' := gt.out
        subst gt'
        obtain ⟨p0, p1, p2, p3, p4, p5, q0, q1, q2, q3, q4, q5⟩ := HP.out
        obtain ⟨la0, ua0, lb0, ub0, la1, ua1, lb1, ub1, la2, ua2, lb2, ub2, la3, ua3, lb3, ub3, la4, ua4, lb4, ub4, la5, ua5, lb5, ub5⟩ := HL.out
        clear hk hlt ET EM QA QB QJ QM VA VB VJ VM gt
        cases sm
        · go_wp2_with fail
          have l1 : w.heap.size < wx.heap.size := by omega
          have l2 : w.heap.size + 1 < wx.heap.size := by omega
          refine region_U 107 (fun v => Below wx.heap.size wx v) has_follows8 (by kernel_rfl) rfl (Go.below_drewN (Below.refl _ _) n).drew ?_
          iterate 28
            apply ListU.cons
            · intro v hv K hK
              obtain ⟨hc, hf⟩ := bcell8 hv
              go_simp
              first
                | exact hK _ hv
                | (refine (great_any _ _ _ _ _ _ _ _ _ _ _ _ _).mono ?_; rintro e v1 ⟨rfl, hv1⟩; exact hK _ (hv.trans (hv1.mono hv.size)))
                | (refine (refGreat_any _ _ _ _ _ _ _ _ _ _ _ _ _).mono ?_; rintro e v1 ⟨rfl, hv1⟩; exact hK _ (hv.trans (hv1.mono hv.size)))
                | (refine (awake14 _).mono ?_; rintro e v1 ⟨rfl, hv1⟩; exact hK _ (hv.trans (hv1.mono hv.size)))
                | (refine (total_any _ _ _ _ _ _ la0 ua0 la1 ua1 la2 ua2 la3 ua3 la4 ua4 la5 ua5 _).mono ?_; rintro e v1 ⟨rfl, hv1⟩; exact hK _ (hv.trans (hv1.mono hv.size)))
                | (refine (missing_any _ _ _ _ _ _ _ _ _ _ _ _ la0 ua0 la1 ua1 la2 ua2 la3 ua3 la4 ua4 la5 ua5 lb0 ub0 lb1 ub1 lb2 ub2 lb3 ub3 lb4 ub4 lb5 ub5 _).mono ?_; rintro e v1 ⟨rfl, hv1⟩; exact hK _ (hv.trans (hv1.mono hv.size)))
            · rfl
          intro v hv
          refine NoPanic.normal ?_
          go_wp2
          go_ret
          exact ⟨rfl, hBx.trans (hv.mono hBx.size)⟩
        · have gz' := gz.out rfl
          subst gz'
          go_wp2_with fail
          have l1 : w.heap.size < wx.heap.size := by omega
          have l2 : w.heap.size + 1 < wx.heap.size := by omega
          refine region_U 107 (fun v => Below wx.heap.size wx v) has_follows8 (by kernel_rfl) rfl (Go.below_drewN (Below.refl _ _) n).drew ?_
          iterate 28
            apply ListU.cons
            · intro v hv K hK
              obtain ⟨hc, hf⟩ := bcell8 hv
              go_simp
              first
                | exact hK _ hv
                | (refine (great_any _ _ _ _ _ _ _ _ _ _ _ _ _).mono ?_; rintro e v1 ⟨rfl, hv1⟩; exact hK _ (hv.trans (hv1.mono hv.size)))
                | (refine (refGreat_any _ _ _ _ _ _ _ _ _ _ _ _ _).mono ?_; rintro e v1 ⟨rfl, hv1⟩; exact hK _ (hv.trans (hv1.mono hv.size)))
                | (refine (awake14 _).mono ?_; rintro e v1 ⟨rfl, hv1⟩; exact hK _ (hv.trans (hv1.mono hv.size)))
                | (refine (total_any _ _ _ _ _ _ la0 ua0 la1 ua1 la2 ua2 la3 ua3 la4 ua4 la5 ua5 _).mono ?_; rintro e v1 ⟨rfl, hv1⟩; exact hK _ (hv.trans (hv1.mono hv.size)))
                | (refine (missing_any _ _ _ _ _ _ _ _ _ _ _ _ la0 ua0 la1 ua1 la2 ua2 la3 ua3 la4 ua4 la5 ua5 lb0 ub0 lb1 ub1 lb2 ub2 lb3 ub3 lb4 ub4 lb5 ub5 _).mono ?_; rintro e v1 ⟨rfl, hv1⟩; exact hK _ (hv.trans (hv1.mono hv.size)))
            · rfl
          intro v hv
          refine NoPanic.normal ?_
          go_wp2
          go_ret
          exact ⟨rfl, hBx.trans (hv.mono hBx.size)⟩
end Go.Proofs.Ytmmaiohnfphcjaa
