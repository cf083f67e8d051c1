/- Contracts of package group. -/
import Derived.Test.YtmmaiohnfphcjaaGrp4
import Derived.Test.YtmmaiohnfphcjaaGrp9
import Derived.Test.YtmmaiohnfphcjaaGrpE
import Derived.Test.YtmmaiohnfphcjaaU
import Derived.Test.YtmmaiohnfphcjaaEq
import Derived.RegionTactic
import Derived.BigRegion
import Derived.Deep.QuietTactic
import Derived.BigQuiet
import Derived.WalkSmall
import Derived.DataReads
import Derived.Great.Walk
import Derived.Deep.MidRow
import Derived.Deep.DeepCutAuto
import Derived.WalkLawsBesides
namespace Go.Proofs.Ytmmaiohnfphcjaa
open Go Go.ChangeShapes Go.WideShapes Go.ChangeAt Go.RowKit
set_option linter.unusedVariables false

theorem has_follows9 : Try.prog.follows .mixedOrders = true := by kernel_rfl

set_option maxRecDepth 100000 in
set_option maxHeartbeats 1600000 in
theorem ops_long (a : Option Addr) (len cap : Nat) (q : Int) (w : World) (hm : len ≤ maxLen) (h : 60 < len) : Calls Try.prog 11 #[.slice a len cap, .int .u64 q] w fun e w' => e = .returned (.bool true) ∧ Below w.heap.size w w' := by
  unfold maxLen at hm
  have e1 : decide (60 < len) = true := by simpa using h
  go_enter Try.func11, Try.ntmps11
  go_wp2_with fail
  refine (awake17 _).mono ?_
  rintro e w1 ⟨rfl, hb1⟩
  go_wp2_with fail
  refine (awake17 _).mono ?_
  rintro e w2 ⟨rfl, hb2⟩
  go_wp2_with fail
  go_ret
  exact ⟨rfl, hb1.trans (hb2.mono hb1.size)⟩

set_option maxRecDepth 100000 in
set_option maxHeartbeats 16000000 in
theorem ops_short (a : Option Addr) (len cap : Nat) (sw so sm sc : Nat → Int) (q : Int) (w : World) (hS : Steps w a len sw so sm sc) (h : len ≤ 60) : Calls Try.prog 11 #[.slice a len cap, .int .u64 q] w fun e w' => e = .returned (.bool true) ∧ Below w.heap.size w w' := by
  have e1 : decide (60 < len) = false := by simp; omega
  have HS := Lib.hid hS
  clear hS
  go_enter Try.func11, Try.ntmps11
  go_wp2_with fail
  refine (awake17 _).mono ?_
  rintro e w1 ⟨rfl, hb1⟩
  have HB1 := Lib.hid hb1
  have hB1 := hb1.size
  clear hb1
  go_wp2_with fail
  obtain ⟨B, hB⟩ : ∃ B, B = w1.heap.size := ⟨_, rfl⟩
  obtain ⟨W0, hW⟩ : ∃ W0 : World, W0 = w1.alloc (.cells #[.int .i64 0, .int .i64 0, .bool false, .bool false, .bool false, .bool false, .bool false, .bool false, .bool false, .bool false, .bool false, .bool false, .bool false, .bool false, .int .u64 0, .int .u64 0, .int .u64 0, .int .u64 0, .int .u64 0, .int .u64 0, .int .i64 0] 54) := ⟨_, rfl⟩
  rw [← hW, ← hB]
  have g0 : W0.heap[B]? = some (.cells #[.int .i64 (⟨0, 0, fun _ => false, fun _ => false, fun _ => 0, 0⟩ : Gp).o, .int .i64 (⟨0, 0, fun _ => false, fun _ => false, fun _ => 0, 0⟩ : Gp).e, .bool ((⟨0, 0, fun _ => false, fun _ => false, fun _ => 0, 0⟩ : Gp).m 0), .bool ((⟨0, 0, fun _ => false, fun _ => false, fun _ => 0, 0⟩ : Gp).m 1), .bool ((⟨0, 0, fun _ => false, fun _ => false, fun _ => 0, 0⟩ : Gp).m 2), .bool ((⟨0, 0, fun _ => false, fun _ => false, fun _ => 0, 0⟩ : Gp).m 3), .bool ((⟨0, 0, fun _ => false, fun _ => false, fun _ => 0, 0⟩ : Gp).m 4), .bool ((⟨0, 0, fun _ => false, fun _ => false, fun _ => 0, 0⟩ : Gp).m 5), .bool ((⟨0, 0, fun _ => false, fun _ => false, fun _ => 0, 0⟩ : Gp).g 0), .bool ((⟨0, 0, fun _ => false, fun _ => false, fun _ => 0, 0⟩ : Gp).g 1), .bool ((⟨0, 0, fun _ => false, fun _ => false, fun _ => 0, 0⟩ : Gp).g 2), .bool ((⟨0, 0, fun _ => false, fun _ => false, fun _ => 0, 0⟩ : Gp).g 3), .bool ((⟨0, 0, fun _ => false, fun _ => false, fun _ => 0, 0⟩ : Gp).g 4), .bool ((⟨0, 0, fun _ => false, fun _ => false, fun _ => 0, 0⟩ : Gp).g 5), .int .u64 ((⟨0, 0, fun _ => false, fun _ => false, fun _ => 0, 0⟩ : Gp).c 0), .int .u64 ((⟨0, 0, fun _ => false, fun _ => false, fun _ => 0, 0⟩ : Gp).c 1), .int .u64 ((⟨0, 0, fun _ => false, fun _ => false, fun _ => 0, 0⟩ : Gp).c 2), .int .u64 ((⟨0, 0, fun _ => false, fun _ => false, fun _ => 0, 0⟩ : Gp).c 3), .int .u64 ((⟨0, 0, fun _ => false, fun _ => false, fun _ => 0, 0⟩ : Gp).c 4), .int .u64 ((⟨0, 0, fun _ => false, fun _ => false, fun _ => 0, 0⟩ : Gp).c 5), .int .i64 (⟨0, 0, fun _ => false, fun _ => false, fun _ => 0, 0⟩ : Gp).s] 54 (0, 0)) := by rw [hW, hB]; exact heap_alloc_new _ _
  have hbW : Below w.heap.size w W0 := by rw [hW]; exact HB1.out.alloc hB1 _
  have hBw : w.heap.size ≤ B := by rw [hB]; exact hB1
  have G0 := Lib.hid g0
  have HW := Lib.hid hbW
  clear hW hB g0 hbW hB1 HB1
  go_loopw [6] (fun i wz => ∃ (k : Nat) (G : Gp) (wr : World), k ≤ len ∧ i = .int .i64 k ∧ wr = wz ∧ Hid (Below w.heap.size w wr) ∧ Hid (wr.heap[B]? = some (.cells #[.int .i64 G.o, .int .i64 G.e, .bool (G.m 0), .bool (G.m 1), .bool (G.m 2), .bool (G.m 3), .bool (G.m 4), .bool (G.m 5), .bool (G.g 0), .bool (G.g 1), .bool (G.g 2), .bool (G.g 3), .bool (G.g 4), .bool (G.g 5), .int .u64 (G.c 0), .int .u64 (G.c 1), .int .u64 (G.c 2), .int .u64 (G.c 3), .int .u64 (G.c 4), .int .u64 (G.c 5), .int .i64 G.s] 54 (0, 0))) ∧ Hid (0 ≤ G.e ∧ G.e ≤ k ∧ 0 ≤ G.s ∧ G.s ≤ k)) (fun i _ => len - (intOf i).toNat)
  case atStart => exact ⟨0, _, _, Nat.zero_le _, rfl, rfl, HW, G0, Lib.hid (by decide)⟩
  case round =>
    obtain ⟨k, G, wr, hk, rfl, rfl, hbr, hgr, hbd⟩ := hrel
    clear HW G0
    by_cases hlt : k < len
    · obtain ⟨bb, off, rfl, hlb, hcc⟩ := HS.out.cells (by omega)
      obtain ⟨x0, x1, x2, x3, f0, f1, f2, f3⟩ := hcc k hlt
      have y0 := (hbr.out.cell (p := ⟨bb, off + k * 4, none⟩) hlb).trans x0
      have y1 := (hbr.out.cell (p := ⟨bb, off + k * 4 + 1, none⟩) hlb).trans x1
      have y2 := (hbr.out.cell (p := ⟨bb, off + k * 4 + 2, none⟩) hlb).trans x2
      have y3 := (hbr.out.cell (p := ⟨bb, off + k * 4 + 3, none⟩) hlb).trans x3
      have hra : wr.rangeAt bb (off + k * 4) [.int .i64 (sw k), .int .i64 (so k), .int .i64 (sm k), .int .u64 (sc k)] := fun j v hj => by
        match j, hj with
        | 0, hj => simp at hj; subst hj; exact y0
        | 1, hj => simp at hj; subst hj; exact y1
        | 2, hj => simp at hj; subst hj; exact y2
        | 3, hj => simp at hj; subst hj; exact y3
      have HRA := Lib.hid hra
      clear hra y0 y1 y2 y3 x0 x1 x2 x3 hcc
      have k0 : (0 : Int) ≤ (k : Int) := by omega
      have k1 : (k : Int) < (len : Int) := by omega
      obtain ⟨a, ha⟩ : ∃ a, a = sw k := ⟨_, rfl⟩
      obtain ⟨b, hb⟩ : ∃ b, b = so k := ⟨_, rfl⟩
      obtain ⟨n, hn⟩ : ∃ n, n = sm k := ⟨_, rfl⟩
      obtain ⟨cut, hcut⟩ : ∃ cut, cut = sc k := ⟨_, rfl⟩
      rw [← ha, ← hb, ← hn, ← hcut] at HRA
      clear ha hb hn hcut f0 f1 f2 f3
      have lB : B < wr.heap.size := lt_of_blk hgr.out
      go_wp2_with (first | (refine wpList_load_mid (by rfl) 56 _ (by rfl) bb (off + k * 4) (by rfl) _ _ HRA.out Try.underlying56 (by rfl) (by kernel_rfl) ?_) | (refine wpList_store_blk (by rfl) 56 (.tmp 7) _ (by rfl) wr.heap.size (by rfl) _ (by rfl) _ 56 (heap_alloc_new wr _) (by rfl) (by kernel_rfl) (by simp [Value.oneCell']) B wr ((Below.refl _ _).alloc (by have := lt_of_blk hgr.out; omega) _) (by have := lt_of_blk hgr.out; omega) ?_; intro w2 H2 hb2 hs2 ho2; have hg2 : w2.heap[B]? = some (.cells #[.int .i64 G.o, .int .i64 G.e, .bool (G.m 0), .bool (G.m 1), .bool (G.m 2), .bool (G.m 3), .bool (G.m 4), .bool (G.m 5), .bool (G.g 0), .bool (G.g 1), .bool (G.g 2), .bool (G.g 3), .bool (G.g 4), .bool (G.g 5), .int .u64 (G.c 0), .int .u64 (G.c 1), .int .u64 (G.c 2), .int .u64 (G.c 3), .int .u64 (G.c 4), .int .u64 (G.c 5), .int .i64 G.s] 54 (0, 0)) := (by rw [ho2.out B (by omega), Below.heap_alloc _ _ _ lB]; exact hgr.out); have q0 : w2.cell? ⟨wr.heap.size, 0, none⟩ = some (.int .i64 a) := (by rw [cell_blk H2.out]; rfl); have q1 : w2.cell? ⟨wr.heap.size, 1, none⟩ = some (.int .i64 b) := (by rw [cell_blk H2.out]; rfl); have q2 : w2.cell? ⟨wr.heap.size, 2, none⟩ = some (.int .i64 n) := (by rw [cell_blk H2.out]; rfl); have q3 : w2.cell? ⟨wr.heap.size, 3, none⟩ = some (.int .u64 cut) := (by rw [cell_blk H2.out]; rfl); have HS2 := Lib.hid (show wr.heap.size + 1 = w2.heap.size by rw [hs2]; simp); have HB2 := Lib.hid hb2; have HG2 := Lib.hid hg2; clear hs2 hb2 hg2 ho2 H2) | (refine wpList_load_row (by rfl) 54 (.tmp 5) (by rfl) B (by rfl) 54 _ (0, 0) _ HG2.out Try.underlying54 (by rfl) (by kernel_rfl) ?_) | (go_at_call 30; refine (may_any G a b n _).mono ?_; rintro e w3 ⟨rfl, hb3⟩; have HS2o := HS2.out; have z0 := (hb3.cell (p := ⟨wr.heap.size, 0, none⟩) (by simp; omega)).trans q0; have z1 := (hb3.cell (p := ⟨wr.heap.size, 1, none⟩) (by simp; omega)).trans q1; have z2 := (hb3.cell (p := ⟨wr.heap.size, 2, none⟩) (by simp; omega)).trans q2; have z3 := (hb3.cell (p := ⟨wr.heap.size, 3, none⟩) (by simp; omega)).trans q3; have HG3 := Lib.hid ((hb3.block B (by omega)).trans HG2.out); have HBr3 := Lib.hid (hbr.out.trans ((HB2.out.trans (hb3.mono (by omega))).mono hBw)); have HZ3 := Lib.hid (show wr.heap.size + 1 ≤ w3.heap.size by have := hb3.size; omega); clear hb3 q0 q1 q2 q3 HS2o) | (refine wpList_load_row (by rfl) 54 (.tmp 5) (by rfl) B (by rfl) 54 _ (0, 0) _ HG3.out Try.underlying54 (by rfl) (by kernel_rfl) ?_) | (go_at_call 31; refine (beh_any G a b n cut (by have := hbd.out; omega) (by have := hbd.out; omega) (by have := hbd.out; omega) (by have := hbd.out; omega) _).mono ?_; rintro e w4 ⟨rfl, hb4⟩; have hz3 := HZ3.out; have y0 := (hb4.cell (p := ⟨wr.heap.size, 0, none⟩) (by simp; omega)).trans z0; have y1 := (hb4.cell (p := ⟨wr.heap.size, 1, none⟩) (by simp; omega)).trans z1; have y2 := (hb4.cell (p := ⟨wr.heap.size, 2, none⟩) (by simp; omega)).trans z2; have y3 := (hb4.cell (p := ⟨wr.heap.size, 3, none⟩) (by simp; omega)).trans z3; have HG4 := Lib.hid ((hb4.block B (by omega)).trans HG3.out); have HBr4 := Lib.hid (HBr3.out.trans (hb4.mono HBr3.out.size)); have HZ4 := Lib.hid (show wr.heap.size + 1 ≤ w4.heap.size by have := hb4.size; omega); clear hb4 z0 z1 z2 z3 hz3; (dsimp only; rename_i hK; refine hK _ _ ?_); (refine Go.Great.wpList_allocTo (by rfl) (some 9) (by rfl) (.pointer (some ⟨w4.heap.size, 0, none⟩)) (.cells #[.int .i64 0, .int .i64 0, .bool false, .bool false, .bool false, .bool false, .bool false, .bool false, .bool false, .bool false, .bool false, .bool false, .bool false, .bool false, .int .u64 0, .int .u64 0, .int .u64 0, .int .u64 0, .int .u64 0, .int .u64 0, .int .i64 0] 54) (by first | rfl | kernel_rfl | go_simp) ?_); (refine wpList_store_blk (by rfl) 54 (.tmp 9) _ (by rfl) w4.heap.size (by rfl) _ (by rfl) _ 54 (heap_alloc_new w4 _) (by rfl) (by kernel_rfl) (by simp [Value.oneCell']) w.heap.size w (HBr4.out.alloc (by have := HZ4.out; omega) _) (by have := HZ4.out; omega) ?_); intro w5 H5 hb5 hs5 ho5; (have lB4 := lt_of_blk HG4.out); (have HG5 := Lib.hid ((ho5.out B (by omega)).trans ((Below.heap_alloc _ _ _ (by omega)).trans HG4.out))); (skip); (have HB5 := Lib.hid hb5); (have HS5 := Lib.hid (show w4.heap.size + 1 = w5.heap.size by have := hs5; simp at this; omega)); (have u0 := ((World.cell?_of_block (w := w4) (w' := w5) (a := ⟨wr.heap.size, 0, none⟩) ((ho5.out wr.heap.size (by have := HZ4.out; omega)).trans (Below.heap_alloc _ _ _ (by have := HZ4.out; omega))))).trans y0; have u1 := ((World.cell?_of_block (w := w4) (w' := w5) (a := ⟨wr.heap.size, 1, none⟩) ((ho5.out wr.heap.size (by have := HZ4.out; omega)).trans (Below.heap_alloc _ _ _ (by have := HZ4.out; omega))))).trans y1; have u2 := ((World.cell?_of_block (w := w4) (w' := w5) (a := ⟨wr.heap.size, 2, none⟩) ((ho5.out wr.heap.size (by have := HZ4.out; omega)).trans (Below.heap_alloc _ _ _ (by have := HZ4.out; omega))))).trans y2; have u3 := ((World.cell?_of_block (w := w4) (w' := w5) (a := ⟨wr.heap.size, 3, none⟩) ((ho5.out wr.heap.size (by have := HZ4.out; omega)).trans (Below.heap_alloc _ _ _ (by have := HZ4.out; omega))))).trans y3; clear hb5 hs5 ho5 y0 y1 y2 y3)))
      have lN5 : w4.heap.size < w5.heap.size := by have := HS5.out; omega
      have lB5 : B < w5.heap.size := by omega
      have lS5 : wr.heap.size < w5.heap.size := by have := HZ4.out; omega
      have b0 : -4611686018427387904 ≤ G.e := by have := hbd.out; omega
      have b1 : G.e ≤ 4611686018427387904 := by have := hbd.out; omega
      have b2 : -4611686018427387904 ≤ G.s := by have := hbd.out; omega
      have b3 : G.s ≤ 4611686018427387904 := by have := hbd.out; omega
      have hneq : ∀ v, (binOp .neq 54 (.agg #[.int .i64 (behF G a b n cut).o, .int .i64 (behF G a b n cut).e, .bool ((behF G a b n cut).m 0), .bool ((behF G a b n cut).m 1), .bool ((behF G a b n cut).m 2), .bool ((behF G a b n cut).m 3), .bool ((behF G a b n cut).m 4), .bool ((behF G a b n cut).m 5), .bool ((behF G a b n cut).g 0), .bool ((behF G a b n cut).g 1), .bool ((behF G a b n cut).g 2), .bool ((behF G a b n cut).g 3), .bool ((behF G a b n cut).g 4), .bool ((behF G a b n cut).g 5), .int .u64 ((behF G a b n cut).c 0), .int .u64 ((behF G a b n cut).c 1), .int .u64 ((behF G a b n cut).c 2), .int .u64 ((behF G a b n cut).c 3), .int .u64 ((behF G a b n cut).c 4), .int .u64 ((behF G a b n cut).c 5), .int .i64 (behF G a b n cut).s]) (.agg #[.int .i64 (behF G a b n cut).o, .int .i64 (behF G a b n cut).e, .bool ((behF G a b n cut).m 0), .bool ((behF G a b n cut).m 1), .bool ((behF G a b n cut).m 2), .bool ((behF G a b n cut).m 3), .bool ((behF G a b n cut).m 4), .bool ((behF G a b n cut).m 5), .bool ((behF G a b n cut).g 0), .bool ((behF G a b n cut).g 1), .bool ((behF G a b n cut).g 2), .bool ((behF G a b n cut).g 3), .bool ((behF G a b n cut).g 4), .bool ((behF G a b n cut).g 5), .int .u64 ((behF G a b n cut).c 0), .int .u64 ((behF G a b n cut).c 1), .int .u64 ((behF G a b n cut).c 2), .int .u64 ((behF G a b n cut).c 3), .int .u64 ((behF G a b n cut).c 4), .int .u64 ((behF G a b n cut).c 5), .int .i64 (behF G a b n cut).s])).run Try.prog v = .ok (.bool false) v := fun v => neq_group _ v
      by_cases hmay : mayF G a b n = 0
      · have dm : (mayF G a b n == 0) = true := by rw [hmay]; rfl
        clear hmay
        refine region_U 134 (fun v => Below w5.heap.size w5 v) has_follows9 (by kernel_rfl) rfl ((Below.refl _ _).drew) ?_
        iterate 24
          apply ListU.cons
          · intro v hv K hK
            first
              | (rw [if_pos (by rfl)]; exact wp_load_row 54 (.tmp 5) (by rfl) B (by rfl) 54 _ (0, 0) _ ((hv.block B lB5).trans HG5.out) Try.underlying54 (by rfl) (by kernel_rfl) (hK _ hv))
              | (rw [if_pos (by rfl)]; exact wp_load_row 54 (.tmp 9) (by rfl) w4.heap.size (by rfl) 54 _ (0, 0) _ ((hv.block w4.heap.size lN5).trans H5.out) Try.underlying54 (by rfl) (by kernel_rfl) (hK _ hv))
              | (obtain ⟨hc, hf⟩ := bcell hv
                 go_simp
                 first
                   | exact hK _ hv
                   | (refine (rmay_any G a b n _).mono ?_; rintro e v1 ⟨rfl, hv1⟩; exact hK _ (hv.trans (hv1.mono hv.size)))
                   | (refine (rbeh_any G a b n cut b0 b1 b2 b3 _).mono ?_; rintro e v1 ⟨rfl, hv1⟩; exact hK _ (hv.trans (hv1.mono hv.size))))
          · rfl
        intro v hv
        refine NoPanic.normal ?_
        clear u0 u1 u2 u3 b0 b1 b2 b3 hneq
        have HNv := Lib.hid ((hv.block w4.heap.size lN5).trans H5.out)
        have HGv := Lib.hid ((hv.block B lB5).trans HG5.out)
        have HBv := Lib.hid (HB5.out.trans (hv.mono HB5.out.size))
        clear hv
        go_wp2_with (first | (refine wpList_load_row (by rfl) 54 (.tmp 9) (by rfl) w4.heap.size (by rfl) 54 _ (0, 0) _ HNv.out Try.underlying54 (by rfl) (by kernel_rfl) ?_) | (refine wpList_store_blk (by rfl) 54 (.tmp 5) _ (by rfl) B (by rfl) _ (by rfl) _ 54 HGv.out (by rfl) (by kernel_rfl) (by simp [Value.oneCell']) w.heap.size w HBv.out hBw ?_; intro w7 H7 hb7 hs7 ho7))
        go_roundw
        case rel => exact ⟨k + 1, (behF G a b n cut), _, by omega, by go_num, rfl, Lib.hid hb7, H7, Lib.hid (by have := hbd.out; have := beh_bounds G a b n cut; omega)⟩
        case measure => simp [intOf]; omega
      · have dm : (mayF G a b n == 0) = false := by simpa using hmay
        clear hmay
        refine region_U 134 (fun v => Below w5.heap.size w5 v) has_follows9 (by kernel_rfl) rfl ((Below.refl _ _).drew) ?_
        iterate 24
          apply ListU.cons
          · intro v hv K hK
            first
              | (rw [if_pos (by rfl)]; exact wp_load_row 54 (.tmp 5) (by rfl) B (by rfl) 54 _ (0, 0) _ ((hv.block B lB5).trans HG5.out) Try.underlying54 (by rfl) (by kernel_rfl) (hK _ hv))
              | (rw [if_pos (by rfl)]; exact wp_load_row 54 (.tmp 9) (by rfl) w4.heap.size (by rfl) 54 _ (0, 0) _ ((hv.block w4.heap.size lN5).trans H5.out) Try.underlying54 (by rfl) (by kernel_rfl) (hK _ hv))
              | (obtain ⟨hc, hf⟩ := bcell hv
                 go_simp
                 first
                   | exact hK _ hv
                   | (refine (rmay_any G a b n _).mono ?_; rintro e v1 ⟨rfl, hv1⟩; exact hK _ (hv.trans (hv1.mono hv.size)))
                   | (refine (rbeh_any G a b n cut b0 b1 b2 b3 _).mono ?_; rintro e v1 ⟨rfl, hv1⟩; exact hK _ (hv.trans (hv1.mono hv.size))))
          · rfl
        intro v hv
        refine NoPanic.normal ?_
        have HGv := Lib.hid ((hv.block B lB5).trans HG5.out)
        have HBv := Lib.hid (HB5.out.trans (hv.mono HB5.out.size))
        clear hv u0 u1 u2 u3 b0 b1 b2 b3 hneq
        go_wp2_with fail
        go_roundw
        case rel => exact ⟨k + 1, G, _, by omega, by go_num, rfl, HBv, HGv, Lib.hid (by have := hbd.out; omega)⟩
        case measure => simp [intOf]; omega
    · clear hbd
      go_wp2_with fail
      obtain ⟨W2, hW2⟩ : ∃ W2 : World, W2 = wr := ⟨_, rfl⟩
      rw [← hW2] at hbr hgr ⊢
      clear hW2
      go_loopw [4, 10, 11, 12, 13] (fun r i s11 s12 s13 wz => ∃ (j : Int), (j = -1 ∨ j = 0 ∨ j = 1 ∨ j = 2 ∨ j = 3 ∨ j = 4 ∨ j = 5 ∨ j = 6 ∨ j = 7 ∨ j = 8 ∨ j = 9) ∧ i = .int .i64 j ∧ Hid (Below w.heap.size w wz) ∧ Hid (wz.heap[B]? = some (.cells #[.int .i64 G.o, .int .i64 G.e, .bool (G.m 0), .bool (G.m 1), .bool (G.m 2), .bool (G.m 3), .bool (G.m 4), .bool (G.m 5), .bool (G.g 0), .bool (G.g 1), .bool (G.g 2), .bool (G.g 3), .bool (G.g 4), .bool (G.g 5), .int .u64 (G.c 0), .int .u64 (G.c 1), .int .u64 (G.c 2), .int .u64 (G.c 3), .int .u64 (G.c 4), .int .u64 (G.c 5), .int .i64 G.s] 54 (0, 0)))) (fun _ i _ _ _ _ => (9 - intOf i).toNat)
      case atStart => exact ⟨-1, .inl rfl, rfl, hbr, hgr⟩
      case round =>
        obtain ⟨j, hj, rfl, HV, HG⟩ := hrel
        clear hbr hgr
        rcases hj with rfl | rfl | rfl | rfl | rfl | rfl | rfl | rfl | rfl | rfl | rfl
        · have HI := Lib.hid (show isM G.m (-1) = false from by simp [isM, ing])
          have HC := Lib.hid (show cntF G (-1) q = false from by simp [cntF, isM, ing])
          go_wp2_with (first | (refine wpList_load_blk 54 (.tmp 5) (by rfl) (by rfl) B (by rfl) 54 _ (0, 0) _ HG.out Try.underlying54 (by rfl) (by kernel_rfl) ?_) | (go_at_call 32; refine (is_any' G.o G.e G.m G.g G.c G.s _ _).mono ?_; rintro e v1 ⟨he, hv1⟩; rw [HI.out] at he; subst he; have HG := Lib.hid ((hv1.block B (lt_of_blk HG.out)).trans HG.out); have HV := Lib.hid (HV.out.trans (hv1.mono HV.out.size)); clear hv1) | (go_at_call 33; refine (cnt_any G _ _ _).mono ?_; rintro e v2 ⟨he, hv2⟩; rw [HC.out] at he; subst he; have HG := Lib.hid ((hv2.block B (lt_of_blk HG.out)).trans HG.out); have HV := Lib.hid (HV.out.trans (hv2.mono HV.out.size)); clear hv2))
          exact ⟨⟨0, by simp, rfl, HV, HG⟩, by simp [intOf]⟩
        · have HI := Lib.hid (show isM G.m (0) = false from by simp [isM, ing])
          have HC := Lib.hid (show cntF G (0) q = false from by simp [cntF, isM, ing])
          go_wp2_with (first | (refine wpList_load_blk 54 (.tmp 5) (by rfl) (by rfl) B (by rfl) 54 _ (0, 0) _ HG.out Try.underlying54 (by rfl) (by kernel_rfl) ?_) | (go_at_call 32; refine (is_any' G.o G.e G.m G.g G.c G.s _ _).mono ?_; rintro e v1 ⟨he, hv1⟩; rw [HI.out] at he; subst he; have HG := Lib.hid ((hv1.block B (lt_of_blk HG.out)).trans HG.out); have HV := Lib.hid (HV.out.trans (hv1.mono HV.out.size)); clear hv1) | (go_at_call 33; refine (cnt_any G _ _ _).mono ?_; rintro e v2 ⟨he, hv2⟩; rw [HC.out] at he; subst he; have HG := Lib.hid ((hv2.block B (lt_of_blk HG.out)).trans HG.out); have HV := Lib.hid (HV.out.trans (hv2.mono HV.out.size)); clear hv2))
          exact ⟨⟨1, by simp, rfl, HV, HG⟩, by simp [intOf]⟩
        · have mm : max (min (1 : Int) 6) 1 = 1 := by decide
          have mn : max (1 : Int) 1 = 1 := by decide
          have c1 := (cell_blk (i := 2) HG.out).trans (show _ = some (Value.bool (G.m 0)) from rfl)
          have c2 := (cell_blk (i := 8) HG.out).trans (show _ = some (Value.bool (G.g 0)) from rfl)
          have c3 := (cell_blk (i := 14) HG.out).trans (show _ = some (Value.int .u64 (G.c 0)) from rfl)
          rcases (by cases G.m 0 <;> simp : G.m 0 = false ∨ G.m 0 = true) with hm | hm
          · have HI := Lib.hid (show isM G.m (1) = false from by simp [isM, hm])
            rw [hm] at c1
            rcases (by cases G.g 0 <;> simp : G.g 0 = false ∨ G.g 0 = true) with hg | hg
            · have HC := Lib.hid (show cntF G (1) q = false from by simp [cntF, isM, hm, hg])
              rw [hg] at c2
              clear hm hg
              go_wp2_with (first | (refine wpList_load_blk 54 (.tmp 5) (by rfl) (by rfl) B (by rfl) 54 _ (0, 0) _ HG.out Try.underlying54 (by rfl) (by kernel_rfl) ?_) | (go_at_call 32; refine (is_any' G.o G.e G.m G.g G.c G.s _ _).mono ?_; rintro e v1 ⟨he, hv1⟩; rw [HI.out] at he; subst he; have HG := Lib.hid ((hv1.block B (lt_of_blk HG.out)).trans HG.out); have HV := Lib.hid (HV.out.trans (hv1.mono HV.out.size)); clear hv1) | (go_at_call 33; refine (cnt_any G _ _ _).mono ?_; rintro e v2 ⟨he, hv2⟩; rw [HC.out] at he; subst he; have HG := Lib.hid ((hv2.block B (lt_of_blk HG.out)).trans HG.out); have HV := Lib.hid (HV.out.trans (hv2.mono HV.out.size)); clear hv2))
              exact ⟨⟨2, by simp, rfl, HV, HG⟩, by simp [intOf]⟩
            · have HC := Lib.hid (show cntF G (1) q = decide (q ≤ G.c 0) from by simp [cntF, isM, ing, hm, hg])
              rw [hg] at c2
              clear hm hg
              go_wp2_with (first | (refine wpList_load_blk 54 (.tmp 5) (by rfl) (by rfl) B (by rfl) 54 _ (0, 0) _ HG.out Try.underlying54 (by rfl) (by kernel_rfl) ?_) | (go_at_call 32; refine (is_any' G.o G.e G.m G.g G.c G.s _ _).mono ?_; rintro e v1 ⟨he, hv1⟩; rw [HI.out] at he; subst he; have HG := Lib.hid ((hv1.block B (lt_of_blk HG.out)).trans HG.out); have HV := Lib.hid (HV.out.trans (hv1.mono HV.out.size)); clear hv1) | (go_at_call 33; refine (cnt_any G _ _ _).mono ?_; rintro e v2 ⟨he, hv2⟩; rw [HC.out] at he; subst he; have HG := Lib.hid ((hv2.block B (lt_of_blk HG.out)).trans HG.out); have HV := Lib.hid (HV.out.trans (hv2.mono HV.out.size)); clear hv2))
              exact ⟨⟨2, by simp, rfl, HV, HG⟩, by simp [intOf]⟩
          · have HI := Lib.hid (show isM G.m (1) = true from by simp [isM, ing, hm])
            have HC := Lib.hid (show cntF G (1) q = true from by simp [cntF, isM, ing, hm])
            rw [hm] at c1
            rcases (by cases G.g 0 <;> simp : G.g 0 = false ∨ G.g 0 = true) with hg | hg
            · rw [hg] at c2
              clear hm hg
              go_wp2_with (first | (refine wpList_load_blk 54 (.tmp 5) (by rfl) (by rfl) B (by rfl) 54 _ (0, 0) _ HG.out Try.underlying54 (by rfl) (by kernel_rfl) ?_) | (go_at_call 32; refine (is_any' G.o G.e G.m G.g G.c G.s _ _).mono ?_; rintro e v1 ⟨he, hv1⟩; rw [HI.out] at he; subst he; have HG := Lib.hid ((hv1.block B (lt_of_blk HG.out)).trans HG.out); have HV := Lib.hid (HV.out.trans (hv1.mono HV.out.size)); clear hv1) | (go_at_call 33; refine (cnt_any G _ _ _).mono ?_; rintro e v2 ⟨he, hv2⟩; rw [HC.out] at he; subst he; have HG := Lib.hid ((hv2.block B (lt_of_blk HG.out)).trans HG.out); have HV := Lib.hid (HV.out.trans (hv2.mono HV.out.size)); clear hv2))
              exact ⟨⟨2, by simp, rfl, HV, HG⟩, by simp [intOf]⟩
            · rw [hg] at c2
              clear hm hg
              go_wp2_with (first | (refine wpList_load_blk 54 (.tmp 5) (by rfl) (by rfl) B (by rfl) 54 _ (0, 0) _ HG.out Try.underlying54 (by rfl) (by kernel_rfl) ?_) | (go_at_call 32; refine (is_any' G.o G.e G.m G.g G.c G.s _ _).mono ?_; rintro e v1 ⟨he, hv1⟩; rw [HI.out] at he; subst he; have HG := Lib.hid ((hv1.block B (lt_of_blk HG.out)).trans HG.out); have HV := Lib.hid (HV.out.trans (hv1.mono HV.out.size)); clear hv1) | (go_at_call 33; refine (cnt_any G _ _ _).mono ?_; rintro e v2 ⟨he, hv2⟩; rw [HC.out] at he; subst he; have HG := Lib.hid ((hv2.block B (lt_of_blk HG.out)).trans HG.out); have HV := Lib.hid (HV.out.trans (hv2.mono HV.out.size)); clear hv2))
              exact ⟨⟨2, by simp, rfl, HV, HG⟩, by simp [intOf]⟩
        · have mm : max (min (2 : Int) 6) 1 = 2 := by decide
          have mn : max (2 : Int) 1 = 2 := by decide
          have c1 := (cell_blk (i := 3) HG.out).trans (show _ = some (Value.bool (G.m 1)) from rfl)
          have c2 := (cell_blk (i := 9) HG.out).trans (show _ = some (Value.bool (G.g 1)) from rfl)
          have c3 := (cell_blk (i := 15) HG.out).trans (show _ = some (Value.int .u64 (G.c 1)) from rfl)
          rcases (by cases G.m 1 <;> simp : G.m 1 = false ∨ G.m 1 = true) with hm | hm
          · have HI := Lib.hid (show isM G.m (2) = false from by simp [isM, hm])
            rw [hm] at c1
            rcases (by cases G.g 1 <;> simp : G.g 1 = false ∨ G.g 1 = true) with hg | hg
            · have HC := Lib.hid (show cntF G (2) q = false from by simp [cntF, isM, hm, hg])
              rw [hg] at c2
              clear hm hg
              go_wp2_with (first | (refine wpList_load_blk 54 (.tmp 5) (by rfl) (by rfl) B (by rfl) 54 _ (0, 0) _ HG.out Try.underlying54 (by rfl) (by kernel_rfl) ?_) | (go_at_call 32; refine (is_any' G.o G.e G.m G.g G.c G.s _ _).mono ?_; rintro e v1 ⟨he, hv1⟩; rw [HI.out] at he; subst he; have HG := Lib.hid ((hv1.block B (lt_of_blk HG.out)).trans HG.out); have HV := Lib.hid (HV.out.trans (hv1.mono HV.out.size)); clear hv1) | (go_at_call 33; refine (cnt_any G _ _ _).mono ?_; rintro e v2 ⟨he, hv2⟩; rw [HC.out] at he; subst he; have HG := Lib.hid ((hv2.block B (lt_of_blk HG.out)).trans HG.out); have HV := Lib.hid (HV.out.trans (hv2.mono HV.out.size)); clear hv2))
              exact ⟨⟨3, by simp, rfl, HV, HG⟩, by simp [intOf]⟩
            · have HC := Lib.hid (show cntF G (2) q = decide (q ≤ G.c 1) from by simp [cntF, isM, ing, hm, hg])
              rw [hg] at c2
              clear hm hg
              go_wp2_with (first | (refine wpList_load_blk 54 (.tmp 5) (by rfl) (by rfl) B (by rfl) 54 _ (0, 0) _ HG.out Try.underlying54 (by rfl) (by kernel_rfl) ?_) | (go_at_call 32; refine (is_any' G.o G.e G.m G.g G.c G.s _ _).mono ?_; rintro e v1 ⟨he, hv1⟩; rw [HI.out] at he; subst he; have HG := Lib.hid ((hv1.block B (lt_of_blk HG.out)).trans HG.out); have HV := Lib.hid (HV.out.trans (hv1.mono HV.out.size)); clear hv1) | (go_at_call 33; refine (cnt_any G _ _ _).mono ?_; rintro e v2 ⟨he, hv2⟩; rw [HC.out] at he; subst he; have HG := Lib.hid ((hv2.block B (lt_of_blk HG.out)).trans HG.out); have HV := Lib.hid (HV.out.trans (hv2.mono HV.out.size)); clear hv2))
              exact ⟨⟨3, by simp, rfl, HV, HG⟩, by simp [intOf]⟩
          · have HI := Lib.hid (show isM G.m (2) = true from by simp [isM, ing, hm])
            have HC := Lib.hid (show cntF G (2) q = true from by simp [cntF, isM, ing, hm])
            rw [hm] at c1
            rcases (by cases G.g 1 <;> simp : G.g 1 = false ∨ G.g 1 = true) with hg | hg
            · rw [hg] at c2
              clear hm hg
              go_wp2_with (first | (refine wpList_load_blk 54 (.tmp 5) (by rfl) (by rfl) B (by rfl) 54 _ (0, 0) _ HG.out Try.underlying54 (by rfl) (by kernel_rfl) ?_) | (go_at_call 32; refine (is_any' G.o G.e G.m G.g G.c G.s _ _).mono ?_; rintro e v1 ⟨he, hv1⟩; rw [HI.out] at he; subst he; have HG := Lib.hid ((hv1.block B (lt_of_blk HG.out)).trans HG.out); have HV := Lib.hid (HV.out.trans (hv1.mono HV.out.size)); clear hv1) | (go_at_call 33; refine (cnt_any G _ _ _).mono ?_; rintro e v2 ⟨he, hv2⟩; rw [HC.out] at he; subst he; have HG := Lib.hid ((hv2.block B (lt_of_blk HG.out)).trans HG.out); have HV := Lib.hid (HV.out.trans (hv2.mono HV.out.size)); clear hv2))
              exact ⟨⟨3, by simp, rfl, HV, HG⟩, by simp [intOf]⟩
            · rw [hg] at c2
              clear hm hg
              go_wp2_with (first | (refine wpList_load_blk 54 (.tmp 5) (by rfl) (by rfl) B (by rfl) 54 _ (0, 0) _ HG.out Try.underlying54 (by rfl) (by kernel_rfl) ?_) | (go_at_call 32; refine (is_any' G.o G.e G.m G.g G.c G.s _ _).mono ?_; rintro e v1 ⟨he, hv1⟩; rw [HI.out] at he; subst he; have HG := Lib.hid ((hv1.block B (lt_of_blk HG.out)).trans HG.out); have HV := Lib.hid (HV.out.trans (hv1.mono HV.out.size)); clear hv1) | (go_at_call 33; refine (cnt_any G _ _ _).mono ?_; rintro e v2 ⟨he, hv2⟩; rw [HC.out] at he; subst he; have HG := Lib.hid ((hv2.block B (lt_of_blk HG.out)).trans HG.out); have HV := Lib.hid (HV.out.trans (hv2.mono HV.out.size)); clear hv2))
              exact ⟨⟨3, by simp, rfl, HV, HG⟩, by simp [intOf]⟩
        · have mm : max (min (3 : Int) 6) 1 = 3 := by decide
          have mn : max (3 : Int) 1 = 3 := by decide
          have c1 := (cell_blk (i := 4) HG.out).trans (show _ = some (Value.bool (G.m 2)) from rfl)
          have c2 := (cell_blk (i := 10) HG.out).trans (show _ = some (Value.bool (G.g 2)) from rfl)
          have c3 := (cell_blk (i := 16) HG.out).trans (show _ = some (Value.int .u64 (G.c 2)) from rfl)
          rcases (by cases G.m 2 <;> simp : G.m 2 = false ∨ G.m 2 = true) with hm | hm
          · have HI := Lib.hid (show isM G.m (3) = false from by simp [isM, hm])
            rw [hm] at c1
            rcases (by cases G.g 2 <;> simp : G.g 2 = false ∨ G.g 2 = true) with hg | hg
            · have HC := Lib.hid (show cntF G (3) q = false from by simp [cntF, isM, hm, hg])
              rw [hg] at c2
              clear hm hg
              go_wp2_with (first | (refine wpList_load_blk 54 (.tmp 5) (by rfl) (by rfl) B (by rfl) 54 _ (0, 0) _ HG.out Try.underlying54 (by rfl) (by kernel_rfl) ?_) | (go_at_call 32; refine (is_any' G.o G.e G.m G.g G.c G.s _ _).mono ?_; rintro e v1 ⟨he, hv1⟩; rw [HI.out] at he; subst he; have HG := Lib.hid ((hv1.block B (lt_of_blk HG.out)).trans HG.out); have HV := Lib.hid (HV.out.trans (hv1.mono HV.out.size)); clear hv1) | (go_at_call 33; refine (cnt_any G _ _ _).mono ?_; rintro e v2 ⟨he, hv2⟩; rw [HC.out] at he; subst he; have HG := Lib.hid ((hv2.block B (lt_of_blk HG.out)).trans HG.out); have HV := Lib.hid (HV.out.trans (hv2.mono HV.out.size)); clear hv2))
              exact ⟨⟨4, by simp, rfl, HV, HG⟩, by simp [intOf]⟩
            · have HC := Lib.hid (show cntF G (3) q = decide (q ≤ G.c 2) from by simp [cntF, isM, ing, hm, hg])
              rw [hg] at c2
              clear hm hg
              go_wp2_with (first | (refine wpList_load_blk 54 (.tmp 5) (by rfl) (by rfl) B (by rfl) 54 _ (0, 0) _ HG.out Try.underlying54 (by rfl) (by kernel_rfl) ?_) | (go_at_call 32; refine (is_any' G.o G.e G.m G.g G.c G.s _ _).mono ?_; rintro e v1 ⟨he, hv1⟩; rw [HI.out] at he; subst he; have HG := Lib.hid ((hv1.block B (lt_of_blk HG.out)).trans HG.out); have HV := Lib.hid (HV.out.trans (hv1.mono HV.out.size)); clear hv1) | (go_at_call 33; refine (cnt_any G _ _ _).mono ?_; rintro e v2 ⟨he, hv2⟩; rw [HC.out] at he; subst he; have HG := Lib.hid ((hv2.block B (lt_of_blk HG.out)).trans HG.out); have HV := Lib.hid (HV.out.trans (hv2.mono HV.out.size)); clear hv2))
              exact ⟨⟨4, by simp, rfl, HV, HG⟩, by simp [intOf]⟩
          · have HI := Lib.hid (show isM G.m (3) = true from by simp [isM, ing, hm])
            have HC := Lib.hid (show cntF G (3) q = true from by simp [cntF, isM, ing, hm])
            rw [hm] at c1
            rcases (by cases G.g 2 <;> simp : G.g 2 = false ∨ G.g 2 = true) with hg | hg
            · rw [hg] at c2
              clear hm hg
              go_wp2_with (first | (refine wpList_load_blk 54 (.tmp 5) (by rfl) (by rfl) B (by rfl) 54 _ (0, 0) _ HG.out Try.underlying54 (by rfl) (by kernel_rfl) ?_) | (go_at_call 32; refine (is_any' G.o G.e G.m G.g G.c G.s _ _).mono ?_; rintro e v1 ⟨he, hv1⟩; rw [HI.out] at he; subst he; have HG := Lib.hid ((hv1.block B (lt_of_blk HG.out)).trans HG.out); have HV := Lib.hid (HV.out.trans (hv1.mono HV.out.size)); clear hv1) | (go_at_call 33; refine (cnt_any G _ _ _).mono ?_; rintro e v2 ⟨he, hv2⟩; rw [HC.out] at he; subst he; have HG := Lib.hid ((hv2.block B (lt_of_blk HG.out)).trans HG.out); have HV := Lib.hid (HV.out.trans (hv2.mono HV.out.size)); clear hv2))
              exact ⟨⟨4, by simp, rfl, HV, HG⟩, by simp [intOf]⟩
            · rw [hg] at c2
              clear hm hg
              go_wp2_with (first | (refine wpList_load_blk 54 (.tmp 5) (by rfl) (by rfl) B (by rfl) 54 _ (0, 0) _ HG.out Try.underlying54 (by rfl) (by kernel_rfl) ?_) | (go_at_call 32; refine (is_any' G.o G.e G.m G.g G.c G.s _ _).mono ?_; rintro e v1 ⟨he, hv1⟩; rw [HI.out] at he; subst he; have HG := Lib.hid ((hv1.block B (lt_of_blk HG.out)).trans HG.out); have HV := Lib.hid (HV.out.trans (hv1.mono HV.out.size)); clear hv1) | (go_at_call 33; refine (cnt_any G _ _ _).mono ?_; rintro e v2 ⟨he, hv2⟩; rw [HC.out] at he; subst he; have HG := Lib.hid ((hv2.block B (lt_of_blk HG.out)).trans HG.out); have HV := Lib.hid (HV.out.trans (hv2.mono HV.out.size)); clear hv2))
              exact ⟨⟨4, by simp, rfl, HV, HG⟩, by simp [intOf]⟩
        · have mm : max (min (4 : Int) 6) 1 = 4 := by decide
          have mn : max (4 : Int) 1 = 4 := by decide
          have c1 := (cell_blk (i := 5) HG.out).trans (show _ = some (Value.bool (G.m 3)) from rfl)
          have c2 := (cell_blk (i := 11) HG.out).trans (show _ = some (Value.bool (G.g 3)) from rfl)
          have c3 := (cell_blk (i := 17) HG.out).trans (show _ = some (Value.int .u64 (G.c 3)) from rfl)
          rcases (by cases G.m 3 <;> simp : G.m 3 = false ∨ G.m 3 = true) with hm | hm
          · have HI := Lib.hid (show isM G.m (4) = false from by simp [isM, hm])
            rw [hm] at c1
            rcases (by cases G.g 3 <;> simp : G.g 3 = false ∨ G.g 3 = true) with hg | hg
            · have HC := Lib.hid (show cntF G (4) q = false from by simp [cntF, isM, hm, hg])
              rw [hg] at c2
              clear hm hg
              go_wp2_with (first | (refine wpList_load_blk 54 (.tmp 5) (by rfl) (by rfl) B (by rfl) 54 _ (0, 0) _ HG.out Try.underlying54 (by rfl) (by kernel_rfl) ?_) | (go_at_call 32; refine (is_any' G.o G.e G.m G.g G.c G.s _ _).mono ?_; rintro e v1 ⟨he, hv1⟩; rw [HI.out] at he; subst he; have HG := Lib.hid ((hv1.block B (lt_of_blk HG.out)).trans HG.out); have HV := Lib.hid (HV.out.trans (hv1.mono HV.out.size)); clear hv1) | (go_at_call 33; refine (cnt_any G _ _ _).mono ?_; rintro e v2 ⟨he, hv2⟩; rw [HC.out] at he; subst he; have HG := Lib.hid ((hv2.block B (lt_of_blk HG.out)).trans HG.out); have HV := Lib.hid (HV.out.trans (hv2.mono HV.out.size)); clear hv2))
              exact ⟨⟨5, by simp, rfl, HV, HG⟩, by simp [intOf]⟩
            · have HC := Lib.hid (show cntF G (4) q = decide (q ≤ G.c 3) from by simp [cntF, isM, ing, hm, hg])
              rw [hg] at c2
              clear hm hg
              go_wp2_with (first | (refine wpList_load_blk 54 (.tmp 5) (by rfl) (by rfl) B (by rfl) 54 _ (0, 0) _ HG.out Try.underlying54 (by rfl) (by kernel_rfl) ?_) | (go_at_call 32; refine (is_any' G.o G.e G.m G.g G.c G.s _ _).mono ?_; rintro e v1 ⟨he, hv1⟩; rw [HI.out] at he; subst he; have HG := Lib.hid ((hv1.block B (lt_of_blk HG.out)).trans HG.out); have HV := Lib.hid (HV.out.trans (hv1.mono HV.out.size)); clear hv1) | (go_at_call 33; refine (cnt_any G _ _ _).mono ?_; rintro e v2 ⟨he, hv2⟩; rw [HC.out] at he; subst he; have HG := Lib.hid ((hv2.block B (lt_of_blk HG.out)).trans HG.out); have HV := Lib.hid (HV.out.trans (hv2.mono HV.out.size)); clear hv2))
              exact ⟨⟨5, by simp, rfl, HV, HG⟩, by simp [intOf]⟩
          · have HI := Lib.hid (show isM G.m (4) = true from by simp [isM, ing, hm])
            have HC := Lib.hid (show cntF G (4) q = true from by simp [cntF, isM, ing, hm])
            rw [hm] at c1
            rcases (by cases G.g 3 <;> simp : G.g 3 = false ∨ G.g 3 = true) with hg | hg
            · rw [hg] at c2
              clear hm hg
              go_wp2_with (first | (refine wpList_load_blk 54 (.tmp 5) (by rfl) (by rfl) B (by rfl) 54 _ (0, 0) _ HG.out Try.underlying54 (by rfl) (by kernel_rfl) ?_) | (go_at_call 32; refine (is_any' G.o G.e G.m G.g G.c G.s _ _).mono ?_; rintro e v1 ⟨he, hv1⟩; rw [HI.out] at he; subst he; have HG := Lib.hid ((hv1.block B (lt_of_blk HG.out)).trans HG.out); have HV := Lib.hid (HV.out.trans (hv1.mono HV.out.size)); clear hv1) | (go_at_call 33; refine (cnt_any G _ _ _).mono ?_; rintro e v2 ⟨he, hv2⟩; rw [HC.out] at he; subst he; have HG := Lib.hid ((hv2.block B (lt_of_blk HG.out)).trans HG.out); have HV := Lib.hid (HV.out.trans (hv2.mono HV.out.size)); clear hv2))
              exact ⟨⟨5, by simp, rfl, HV, HG⟩, by simp [intOf]⟩
            · rw [hg] at c2
              clear hm hg
              go_wp2_with (first | (refine wpList_load_blk 54 (.tmp 5) (by rfl) (by rfl) B (by rfl) 54 _ (0, 0) _ HG.out Try.underlying54 (by rfl) (by kernel_rfl) ?_) | (go_at_call 32; refine (is_any' G.o G.e G.m G.g G.c G.s _ _).mono ?_; rintro e v1 ⟨he, hv1⟩; rw [HI.out] at he; subst he; have HG := Lib.hid ((hv1.block B (lt_of_blk HG.out)).trans HG.out); have HV := Lib.hid (HV.out.trans (hv1.mono HV.out.size)); clear hv1) | (go_at_call 33; refine (cnt_any G _ _ _).mono ?_; rintro e v2 ⟨he, hv2⟩; rw [HC.out] at he; subst he; have HG := Lib.hid ((hv2.block B (lt_of_blk HG.out)).trans HG.out); have HV := Lib.hid (HV.out.trans (hv2.mono HV.out.size)); clear hv2))
              exact ⟨⟨5, by simp, rfl, HV, HG⟩, by simp [intOf]⟩
        · have mm : max (min (5 : Int) 6) 1 = 5 := by decide
          have mn : max (5 : Int) 1 = 5 := by decide
          have c1 := (cell_blk (i := 6) HG.out).trans (show _ = some (Value.bool (G.m 4)) from rfl)
          have c2 := (cell_blk (i := 12) HG.out).trans (show _ = some (Value.bool (G.g 4)) from rfl)
          have c3 := (cell_blk (i := 18) HG.out).trans (show _ = some (Value.int .u64 (G.c 4)) from rfl)
          rcases (by cases G.m 4 <;> simp : G.m 4 = false ∨ G.m 4 = true) with hm | hm
          · have HI := Lib.hid (show isM G.m (5) = false from by simp [isM, hm])
            rw [hm] at c1
            rcases (by cases G.g 4 <;> simp : G.g 4 = false ∨ G.g 4 = true) with hg | hg
            · have HC := Lib.hid (show cntF G (5) q = false from by simp [cntF, isM, hm, hg])
              rw [hg] at c2
              clear hm hg
              go_wp2_with (first | (refine wpList_load_blk 54 (.tmp 5) (by rfl) (by rfl) B (by rfl) 54 _ (0, 0) _ HG.out Try.underlying54 (by rfl) (by kernel_rfl) ?_) | (go_at_call 32; refine (is_any' G.o G.e G.m G.g G.c G.s _ _).mono ?_; rintro e v1 ⟨he, hv1⟩; rw [HI.out] at he; subst he; have HG := Lib.hid ((hv1.block B (lt_of_blk HG.out)).trans HG.out); have HV := Lib.hid (HV.out.trans (hv1.mono HV.out.size)); clear hv1) | (go_at_call 33; refine (cnt_any G _ _ _).mono ?_; rintro e v2 ⟨he, hv2⟩; rw [HC.out] at he; subst he; have HG := Lib.hid ((hv2.block B (lt_of_blk HG.out)).trans HG.out); have HV := Lib.hid (HV.out.trans (hv2.mono HV.out.size)); clear hv2))
              exact ⟨⟨6, by simp, rfl, HV, HG⟩, by simp [intOf]⟩
            · have HC := Lib.hid (show cntF G (5) q = decide (q ≤ G.c 4) from by simp [cntF, isM, ing, hm, hg])
              rw [hg] at c2
              clear hm hg
              go_wp2_with (first | (refine wpList_load_blk 54 (.tmp 5) (by rfl) (by rfl) B (by rfl) 54 _ (0, 0) _ HG.out Try.underlying54 (by rfl) (by kernel_rfl) ?_) | (go_at_call 32; refine (is_any' G.o G.e G.m G.g G.c G.s _ _).mono ?_; rintro e v1 ⟨he, hv1⟩; rw [HI.out] at he; subst he; have HG := Lib.hid ((hv1.block B (lt_of_blk HG.out)).trans HG.out); have HV := Lib.hid (HV.out.trans (hv1.mono HV.out.size)); clear hv1) | (go_at_call 33; refine (cnt_any G _ _ _).mono ?_; rintro e v2 ⟨he, hv2⟩; rw [HC.out] at he; subst he; have HG := Lib.hid ((hv2.block B (lt_of_blk HG.out)).trans HG.out); have HV := Lib.hid (HV.out.trans (hv2.mono HV.out.size)); clear hv2))
              exact ⟨⟨6, by simp, rfl, HV, HG⟩, by simp [intOf]⟩
          · have HI := Lib.hid (show isM G.m (5) = true from by simp [isM, ing, hm])
            have HC := Lib.hid (show cntF G (5) q = true from by simp [cntF, isM, ing, hm])
            rw [hm] at c1
            rcases (by cases G.g 4 <;> simp : G.g 4 = false ∨ G.g 4 = true) with hg | hg
            · rw [hg] at c2
              clear hm hg
              go_wp2_with (first | (refine wpList_load_blk 54 (.tmp 5) (by rfl) (by rfl) B (by rfl) 54 _ (0, 0) _ HG.out Try.underlying54 (by rfl) (by kernel_rfl) ?_) | (go_at_call 32; refine (is_any' G.o G.e G.m G.g G.c G.s _ _).mono ?_; rintro e v1 ⟨he, hv1⟩; rw [HI.out] at he; subst he; have HG := Lib.hid ((hv1.block B (lt_of_blk HG.out)).trans HG.out); have HV := Lib.hid (HV.out.trans (hv1.mono HV.out.size)); clear hv1) | (go_at_call 33; refine (cnt_any G _ _ _).mono ?_; rintro e v2 ⟨he, hv2⟩; rw [HC.out] at he; subst he; have HG := Lib.hid ((hv2.block B (lt_of_blk HG.out)).trans HG.out); have HV := Lib.hid (HV.out.trans (hv2.mono HV.out.size)); clear hv2))
              exact ⟨⟨6, by simp, rfl, HV, HG⟩, by simp [intOf]⟩
            · rw [hg] at c2
              clear hm hg
              go_wp2_with (first | (refine wpList_load_blk 54 (.tmp 5) (by rfl) (by rfl) B (by rfl) 54 _ (0, 0) _ HG.out Try.underlying54 (by rfl) (by kernel_rfl) ?_) | (go_at_call 32; refine (is_any' G.o G.e G.m G.g G.c G.s _ _).mono ?_; rintro e v1 ⟨he, hv1⟩; rw [HI.out] at he; subst he; have HG := Lib.hid ((hv1.block B (lt_of_blk HG.out)).trans HG.out); have HV := Lib.hid (HV.out.trans (hv1.mono HV.out.size)); clear hv1) | (go_at_call 33; refine (cnt_any G _ _ _).mono ?_; rintro e v2 ⟨he, hv2⟩; rw [HC.out] at he; subst he; have HG := Lib.hid ((hv2.block B (lt_of_blk HG.out)).trans HG.out); have HV := Lib.hid (HV.out.trans (hv2.mono HV.out.size)); clear hv2))
              exact ⟨⟨6, by simp, rfl, HV, HG⟩, by simp [intOf]⟩
        · have mm : max (min (6 : Int) 6) 1 = 6 := by decide
          have mn : max (6 : Int) 1 = 6 := by decide
          have c1 := (cell_blk (i := 7) HG.out).trans (show _ = some (Value.bool (G.m 5)) from rfl)
          have c2 := (cell_blk (i := 13) HG.out).trans (show _ = some (Value.bool (G.g 5)) from rfl)
          have c3 := (cell_blk (i := 19) HG.out).trans (show _ = some (Value.int .u64 (G.c 5)) from rfl)
          rcases (by cases G.m 5 <;> simp : G.m 5 = false ∨ G.m 5 = true) with hm | hm
          · have HI := Lib.hid (show isM G.m (6) = false from by simp [isM, hm])
            rw [hm] at c1
            rcases (by cases G.g 5 <;> simp : G.g 5 = false ∨ G.g 5 = true) with hg | hg
            · have HC := Lib.hid (show cntF G (6) q = false from by simp [cntF, isM, hm, hg])
              rw [hg] at c2
              clear hm hg
              go_wp2_with (first | (refine wpList_load_blk 54 (.tmp 5) (by rfl) (by rfl) B (by rfl) 54 _ (0, 0) _ HG.out Try.underlying54 (by rfl) (by kernel_rfl) ?_) | (go_at_call 32; refine (is_any' G.o G.e G.m G.g G.c G.s _ _).mono ?_; rintro e v1 ⟨he, hv1⟩; rw [HI.out] at he; subst he; have HG := Lib.hid ((hv1.block B (lt_of_blk HG.out)).trans HG.out); have HV := Lib.hid (HV.out.trans (hv1.mono HV.out.size)); clear hv1) | (go_at_call 33; refine (cnt_any G _ _ _).mono ?_; rintro e v2 ⟨he, hv2⟩; rw [HC.out] at he; subst he; have HG := Lib.hid ((hv2.block B (lt_of_blk HG.out)).trans HG.out); have HV := Lib.hid (HV.out.trans (hv2.mono HV.out.size)); clear hv2))
              exact ⟨⟨7, by simp, rfl, HV, HG⟩, by simp [intOf]⟩
            · have HC := Lib.hid (show cntF G (6) q = decide (q ≤ G.c 5) from by simp [cntF, isM, ing, hm, hg])
              rw [hg] at c2
              clear hm hg
              go_wp2_with (first | (refine wpList_load_blk 54 (.tmp 5) (by rfl) (by rfl) B (by rfl) 54 _ (0, 0) _ HG.out Try.underlying54 (by rfl) (by kernel_rfl) ?_) | (go_at_call 32; refine (is_any' G.o G.e G.m G.g G.c G.s _ _).mono ?_; rintro e v1 ⟨he, hv1⟩; rw [HI.out] at he; subst he; have HG := Lib.hid ((hv1.block B (lt_of_blk HG.out)).trans HG.out); have HV := Lib.hid (HV.out.trans (hv1.mono HV.out.size)); clear hv1) | (go_at_call 33; refine (cnt_any G _ _ _).mono ?_; rintro e v2 ⟨he, hv2⟩; rw [HC.out] at he; subst he; have HG := Lib.hid ((hv2.block B (lt_of_blk HG.out)).trans HG.out); have HV := Lib.hid (HV.out.trans (hv2.mono HV.out.size)); clear hv2))
              exact ⟨⟨7, by simp, rfl, HV, HG⟩, by simp [intOf]⟩
          · have HI := Lib.hid (show isM G.m (6) = true from by simp [isM, ing, hm])
            have HC := Lib.hid (show cntF G (6) q = true from by simp [cntF, isM, ing, hm])
            rw [hm] at c1
            rcases (by cases G.g 5 <;> simp : G.g 5 = false ∨ G.g 5 = true) with hg | hg
            · rw [hg] at c2
              clear hm hg
              go_wp2_with (first | (refine wpList_load_blk 54 (.tmp 5) (by rfl) (by rfl) B (by rfl) 54 _ (0, 0) _ HG.out Try.underlying54 (by rfl) (by kernel_rfl) ?_) | (go_at_call 32; refine (is_any' G.o G.e G.m G.g G.c G.s _ _).mono ?_; rintro e v1 ⟨he, hv1⟩; rw [HI.out] at he; subst he; have HG := Lib.hid ((hv1.block B (lt_of_blk HG.out)).trans HG.out); have HV := Lib.hid (HV.out.trans (hv1.mono HV.out.size)); clear hv1) | (go_at_call 33; refine (cnt_any G _ _ _).mono ?_; rintro e v2 ⟨he, hv2⟩; rw [HC.out] at he; subst he; have HG := Lib.hid ((hv2.block B (lt_of_blk HG.out)).trans HG.out); have HV := Lib.hid (HV.out.trans (hv2.mono HV.out.size)); clear hv2))
              exact ⟨⟨7, by simp, rfl, HV, HG⟩, by simp [intOf]⟩
            · rw [hg] at c2
              clear hm hg
              go_wp2_with (first | (refine wpList_load_blk 54 (.tmp 5) (by rfl) (by rfl) B (by rfl) 54 _ (0, 0) _ HG.out Try.underlying54 (by rfl) (by kernel_rfl) ?_) | (go_at_call 32; refine (is_any' G.o G.e G.m G.g G.c G.s _ _).mono ?_; rintro e v1 ⟨he, hv1⟩; rw [HI.out] at he; subst he; have HG := Lib.hid ((hv1.block B (lt_of_blk HG.out)).trans HG.out); have HV := Lib.hid (HV.out.trans (hv1.mono HV.out.size)); clear hv1) | (go_at_call 33; refine (cnt_any G _ _ _).mono ?_; rintro e v2 ⟨he, hv2⟩; rw [HC.out] at he; subst he; have HG := Lib.hid ((hv2.block B (lt_of_blk HG.out)).trans HG.out); have HV := Lib.hid (HV.out.trans (hv2.mono HV.out.size)); clear hv2))
              exact ⟨⟨7, by simp, rfl, HV, HG⟩, by simp [intOf]⟩
        · have HI := Lib.hid (show isM G.m (7) = false from by simp [isM, ing])
          have HC := Lib.hid (show cntF G (7) q = false from by simp [cntF, isM, ing])
          go_wp2_with (first | (refine wpList_load_blk 54 (.tmp 5) (by rfl) (by rfl) B (by rfl) 54 _ (0, 0) _ HG.out Try.underlying54 (by rfl) (by kernel_rfl) ?_) | (go_at_call 32; refine (is_any' G.o G.e G.m G.g G.c G.s _ _).mono ?_; rintro e v1 ⟨he, hv1⟩; rw [HI.out] at he; subst he; have HG := Lib.hid ((hv1.block B (lt_of_blk HG.out)).trans HG.out); have HV := Lib.hid (HV.out.trans (hv1.mono HV.out.size)); clear hv1) | (go_at_call 33; refine (cnt_any G _ _ _).mono ?_; rintro e v2 ⟨he, hv2⟩; rw [HC.out] at he; subst he; have HG := Lib.hid ((hv2.block B (lt_of_blk HG.out)).trans HG.out); have HV := Lib.hid (HV.out.trans (hv2.mono HV.out.size)); clear hv2))
          exact ⟨⟨8, by simp, rfl, HV, HG⟩, by simp [intOf]⟩
        · have HI := Lib.hid (show isM G.m (8) = false from by simp [isM, ing])
          have HC := Lib.hid (show cntF G (8) q = false from by simp [cntF, isM, ing])
          go_wp2_with (first | (refine wpList_load_blk 54 (.tmp 5) (by rfl) (by rfl) B (by rfl) 54 _ (0, 0) _ HG.out Try.underlying54 (by rfl) (by kernel_rfl) ?_) | (go_at_call 32; refine (is_any' G.o G.e G.m G.g G.c G.s _ _).mono ?_; rintro e v1 ⟨he, hv1⟩; rw [HI.out] at he; subst he; have HG := Lib.hid ((hv1.block B (lt_of_blk HG.out)).trans HG.out); have HV := Lib.hid (HV.out.trans (hv1.mono HV.out.size)); clear hv1) | (go_at_call 33; refine (cnt_any G _ _ _).mono ?_; rintro e v2 ⟨he, hv2⟩; rw [HC.out] at he; subst he; have HG := Lib.hid ((hv2.block B (lt_of_blk HG.out)).trans HG.out); have HV := Lib.hid (HV.out.trans (hv2.mono HV.out.size)); clear hv2))
          exact ⟨⟨9, by simp, rfl, HV, HG⟩, by simp [intOf]⟩
        · go_wp2_with fail
          go_ret
          exact ⟨rfl, HV.out⟩
end Go.Proofs.Ytmmaiohnfphcjaa
