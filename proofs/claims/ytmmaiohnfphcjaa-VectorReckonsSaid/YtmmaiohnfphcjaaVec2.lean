/- Contracts of package vector. -/
import Derived.Test.YtmmaiohnfphcjaaVec
import Derived.LoopN
import Derived.RegionTactic
import Derived.BigRegion
import Derived.Deep.QuietTactic
import Derived.BigQuiet
import Derived.WalkSmall
import Derived.WalkLawsBesides
namespace Go.Proofs.Ytmmaiohnfphcjaa
open Go.ChangeShapes Go.WideShapes Go.ChangeAt Go.RowKit


set_option maxRecDepth 100000 in
set_option maxHeartbeats 1600000 in
theorem join_x (a0 a1 a2 a3 a4 a5 b0 b1 b2 b3 b4 b5 m0 m1 m2 m3 m4 m5 : Int) (hm0 : (if a0 < b0 then b0 else a0) = m0) (hm1 : (if a1 < b1 then b1 else a1) = m1) (hm2 : (if a2 < b2 then b2 else a2) = m2) (hm3 : (if a3 < b3 then b3 else a3) = m3) (hm4 : (if a4 < b4 then b4 else a4) = m4) (hm5 : (if a5 < b5 then b5 else a5) = m5) (w : World) :
    Calls Try.prog 19 #[.agg #[.int .u64 a0, .int .u64 a1, .int .u64 a2, .int .u64 a3, .int .u64 a4, .int .u64 a5], .agg #[.int .u64 b0, .int .u64 b1, .int .u64 b2, .int .u64 b3, .int .u64 b4, .int .u64 b5]] w fun e w' =>
      e = .returned (.agg #[.int .u64 m0, .int .u64 m1, .int .u64 m2, .int .u64 m3, .int .u64 m4, .int .u64 m5]) ∧ w' = (((w.alloc (.cells #[.int .u64 m0, .int .u64 m1, .int .u64 m2, .int .u64 m3, .int .u64 m4, .int .u64 m5] 36)).alloc (.cells #[.int .u64 b0, .int .u64 b1, .int .u64 b2, .int .u64 b3, .int .u64 b4, .int .u64 b5] 36)).alloc (.cells #[.int .u64 m0, .int .u64 m1, .int .u64 m2, .int .u64 m3, .int .u64 m4, .int .u64 m5] 36)).drew.drew.drew.drew.drew.drew := by
  go_enter Try.func19, Try.ntmps19
  go_wp2
  refine wp_loop_rounds 7 ?_
  rw [rounds_succ]
  go_wp2
  go_region
  iterate 5
    go_wp2
    rw [rounds_succ]
    go_wp2
    go_region
  go_wp2
  rw [rounds_succ]
  go_wp2
  refine bodyPost_ret (v := .agg #[.int .u64 m0, .int .u64 m1, .int .u64 m2, .int .u64 m3, .int .u64 m4, .int .u64 m5]) (by simp [results, Try.results19, go_sem]) rfl ⟨rfl, rfl⟩

theorem join_raw (a0 a1 a2 a3 a4 a5 b0 b1 b2 b3 b4 b5 m0 m1 m2 m3 m4 m5 : Int) (hm0 : (if a0 < b0 then b0 else a0) = m0) (hm1 : (if a1 < b1 then b1 else a1) = m1) (hm2 : (if a2 < b2 then b2 else a2) = m2) (hm3 : (if a3 < b3 then b3 else a3) = m3) (hm4 : (if a4 < b4 then b4 else a4) = m4) (hm5 : (if a5 < b5 then b5 else a5) = m5) (w : World) :
    Calls Try.prog 19 #[.agg #[.int .u64 a0, .int .u64 a1, .int .u64 a2, .int .u64 a3, .int .u64 a4, .int .u64 a5], .agg #[.int .u64 b0, .int .u64 b1, .int .u64 b2, .int .u64 b3, .int .u64 b4, .int .u64 b5]] w fun e w' =>
      e = .returned (.agg #[.int .u64 m0, .int .u64 m1, .int .u64 m2, .int .u64 m3, .int .u64 m4, .int .u64 m5]) ∧ Below w.heap.size w w' :=
  (join_x _ _ _ _ _ _ _ _ _ _ _ _ _ _ _ _ _ _ hm0 hm1 hm2 hm3 hm4 hm5 w).mono fun e w' ⟨he, hw⟩ => ⟨he, by rw [hw]; repeat (first | exact Below.refl _ _ | apply Below.drew | apply below_drewN | (refine Below.alloc ?_ (by simp; try omega) _) | (refine Below.setCell ?_ (by simp) _))⟩

set_option maxRecDepth 100000 in
set_option maxHeartbeats 1600000 in
theorem meet_x (a0 a1 a2 a3 a4 a5 b0 b1 b2 b3 b4 b5 m0 m1 m2 m3 m4 m5 : Int) (hm0 : (if b0 < a0 then b0 else a0) = m0) (hm1 : (if b1 < a1 then b1 else a1) = m1) (hm2 : (if b2 < a2 then b2 else a2) = m2) (hm3 : (if b3 < a3 then b3 else a3) = m3) (hm4 : (if b4 < a4 then b4 else a4) = m4) (hm5 : (if b5 < a5 then b5 else a5) = m5) (w : World) :
    Calls Try.prog 20 #[.agg #[.int .u64 a0, .int .u64 a1, .int .u64 a2, .int .u64 a3, .int .u64 a4, .int .u64 a5], .agg #[.int .u64 b0, .int .u64 b1, .int .u64 b2, .int .u64 b3, .int .u64 b4, .int .u64 b5]] w fun e w' =>
      e = .returned (.agg #[.int .u64 m0, .int .u64 m1, .int .u64 m2, .int .u64 m3, .int .u64 m4, .int .u64 m5]) ∧ w' = (((w.alloc (.cells #[.int .u64 m0, .int .u64 m1, .int .u64 m2, .int .u64 m3, .int .u64 m4, .int .u64 m5] 36)).alloc (.cells #[.int .u64 b0, .int .u64 b1, .int .u64 b2, .int .u64 b3, .int .u64 b4, .int .u64 b5] 36)).alloc (.cells #[.int .u64 m0, .int .u64 m1, .int .u64 m2, .int .u64 m3, .int .u64 m4, .int .u64 m5] 36)).drew.drew.drew.drew.drew.drew := by
  go_enter Try.func20, Try.ntmps20
  go_wp2
  refine wp_loop_rounds 7 ?_
  rw [rounds_succ]
  go_wp2
  go_region
  iterate 5
    go_wp2
    rw [rounds_succ]
    go_wp2
    go_region
  go_wp2
  rw [rounds_succ]
  go_wp2
  refine bodyPost_ret (v := .agg #[.int .u64 m0, .int .u64 m1, .int .u64 m2, .int .u64 m3, .int .u64 m4, .int .u64 m5]) (by simp [results, Try.results20, go_sem]) rfl ⟨rfl, rfl⟩

theorem meet_raw (a0 a1 a2 a3 a4 a5 b0 b1 b2 b3 b4 b5 m0 m1 m2 m3 m4 m5 : Int) (hm0 : (if b0 < a0 then b0 else a0) = m0) (hm1 : (if b1 < a1 then b1 else a1) = m1) (hm2 : (if b2 < a2 then b2 else a2) = m2) (hm3 : (if b3 < a3 then b3 else a3) = m3) (hm4 : (if b4 < a4 then b4 else a4) = m4) (hm5 : (if b5 < a5 then b5 else a5) = m5) (w : World) :
    Calls Try.prog 20 #[.agg #[.int .u64 a0, .int .u64 a1, .int .u64 a2, .int .u64 a3, .int .u64 a4, .int .u64 a5], .agg #[.int .u64 b0, .int .u64 b1, .int .u64 b2, .int .u64 b3, .int .u64 b4, .int .u64 b5]] w fun e w' =>
      e = .returned (.agg #[.int .u64 m0, .int .u64 m1, .int .u64 m2, .int .u64 m3, .int .u64 m4, .int .u64 m5]) ∧ Below w.heap.size w w' :=
  (meet_x _ _ _ _ _ _ _ _ _ _ _ _ _ _ _ _ _ _ hm0 hm1 hm2 hm3 hm4 hm5 w).mono fun e w' ⟨he, hw⟩ => ⟨he, by rw [hw]; repeat (first | exact Below.refl _ _ | apply Below.drew | apply below_drewN | (refine Below.alloc ?_ (by simp; try omega) _) | (refine Below.setCell ?_ (by simp) _))⟩
end Go.Proofs.Ytmmaiohnfphcjaa
